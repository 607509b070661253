import PyProof.Rows.All
import Wide.All
import OpenK.AllK
import Wide.FinOn
import Lean
import PyProof.EqAt
import PyProof.EqKinds
import PyProof.TupleCall
import PyProof.StrLawsChain
import KE.KIntText
import PyProof.EnumFor
import PyProof.EnumMake
import PyProof.ZipIter
import PyProof.LayNew
import KE.KTurns
import PyProof.Rows.Range3
import KE.KRevSl
import KE.KDictList
import PyProof.Draws
import PyProof.Rows.RuleM_int
import PyProof.Rows.BitMore
import PyProof.NeKinds
import KE.KRevIter
import PyProof.JoinWalk
import KE.KDictSum
import KE.KSortTup
import KE.KTryMore
import PyProof.ExcArgs
import OpenK.KOwn
import PyProof.ExcBaseAll.ValueError
import KE.KLam
import KE.KNestM
import PyProof.Rows.SetFrom
import PyProof.AttrMissHeap
import KE.KDictOf
import PyProof.TupleKey
import PyProof.DictRoadsH
import PyProof.MeetsDict
import KE.KItemsList
import KE.KUnpack
import PyProof.ListStr
import PySem.Challenge.RW_loomwright_k06_rows_refused
set_option Elab.async false
set_option linter.all false
set_option maxRecDepth 100000
set_option genSizeOf false
set_option bootstrap.genMatcherCode false
set_option compiler.extract_closed false
set_option maxHeartbeats 4000000
noncomputable section
open Option renaming some → aS, none → aV, map_some → Au5, isSome_iff_exists → Ax3, bind_some → AF4
open PySem renaming Shared → aT, wpAny → aW, model → aX, starEach → aZ, World → bg, boot_len → Aj3, sizeLine_eq → Aj9, eval → bh, Expr → br, compareOp → Ak3, strLen_append → Ak6, NameKind → Al1, mainGlobals → Al3, bootBuiltins → Am4, foldedSetIterable → Am5, FuncData → Am7, mem_of_lookup → Am9, codeAny_call_builtin → An0, Around → An2, codeAny → An3, backTo → An9, codeAny_mono → Ao3, attributeBase → Ao5, noteFrame → Ao9, wpAny_execs_nil → Aq0, wpAny_passesOwn → Aq1, intText? → Aq2, setFlight → Aq4, Builtin → Aq7, binaryOp → Ar2, Addr → Ar8, wpAny_call_entry → As0, importedModules → As7, letOwnedTupleGo → As9, sysModules → At3, call_meets → At4, sliceBounds → At5, wpAny_getItem_str_slice → At6, Str → At7, compEnvC → Au3, Within → Av1, swapsWith → Av3, assignEach → Av4, wpAny_attempt → Aw0, assign → Ax1, holding → Ax4, treeTable → Ax9, rawInt → Ay6, wpAny_setField → Ay8, Model → Az3, keywordEach → Az4, wpAny_newObj_type → Az5, wpAny_pyIter_enum → Az7, Params → Az9, wpAny_comprehension_free → AA7, wpAny_onRaise → AA9, wpAny_execs_cons → AB6, Value → AB8, codeAmong → AC1, leaving → AC8, typeIs_str → AC9, post_val_or_str → AD4, getAttrByItsOwn → AD5, wpAny_loadPart → AE4, wpAny_newFunctionEnv → AE5, IsPair → AE6, wpAny_updateSeq_pair → AE7, unbindBehindTheSuite → AE9, boundAndCalled → AF0, BindsTo → AF2, wpAny_isSubtype_exc → AG3, behindInMarks → AG7, wpAny_assign_Name → AH9, wpAny_pyIter_list → AI0, plainObj_wpAny_Assign_Attribute → AI4
open PySem.W renaming Frag → aU, kitOne → Ai6, findIn → Aj4, keepIn → Ak7, kia_one → Al0, kia_tup → Al7, hideAll_none → Al8, emptyDict → Al9, boot_heap → Am2, callWith_K → An4, instObj → An6, boot_drawn → An8, hideAll → Ao2, looks_findIn → Ao4, hideAll_get → Ao7, takerIn → As1, exmOne → As3, CodeHd → As4, fnOf → Au1, kmHook → Au2, codeHd_of_K → Au8, hasDictIn → Aw4, mroIn → Aw5, kitx_list → Aw6, kitx_dict → Aw7, specialIn → Ax2, plainGet → Ax6, OpenLaw → Ay1, of_hideAll → Ay4, cellsFrom_some → Ay7, lookIn → AA0, looks_clsIn → AA1, codeIn → AA3, plainGet_of → AB7, mg_of → AC7, takesIn → AD2, methodObj → AD6, any_some → AH0, kitAny → AH4, isFn → AI1
open PySem.Value renaming ref → aY, none → Aj8, type → Ap8, bool → Ar6, int → Av8, str → Ay3, float → AG6
open PySem.Builtin.Range renaming rangeSize → Ai7, small → AH8
open PySem.Txt renaming split → Ai8, join → Ak4, endswith → Al4, slice → Az1, slice_le → AA8
open PySem.Str renaming ofString → Ai9, length → Am3, join → Am8, empty → Ar0
open PySem.F renaming plainAttrs_list → Aj0, plainAttrs_str → Aj5, slot_list_append → Aj6, type_list_append → Aj7, slot_str_split → Al2, type_str_split → An1, excAttr_ValueError → Ap5, excBase_ValueError → Ap6, slot_tuple_iterator_next → Ar1, slot_str_join → At1, type_str_join → At2, slot_str_endswith → Aw2, type_str_endswith → Aw3, slot_zip_next → AC5, slot_list_pop → AD0, args_str_split_2 → AG1, entry_str_split → AH3, args_tuple_iterator_next_1 → AK2
open PyProof.Rows renaming boot_isinstance → Aj1, callWith_type1 → Al6, boot_int → Ar3, boot_str → As6, AllBare → Av9, callWith_builtin1 → AC3
open False renaming elim → Aj2
open PySem.Builtin.Str renaming occurrences → Ak0, strKind → An7
open PySem.Builtin.SmallTypes renaming nextOf → Ak1, ownedTupleIsFree → Am6, ownedTupleHandOut → Aw8
open PySem.Obj renaming mapFields → Ak2, data_mapFields → Ap0, mapSeq → AA4, isFreed_of_fields → AC0
open True renaming intro → Ak5
open PySem.NameKind renaming free → Ak8, cell → AB9
open Ne renaming symm → Ak9
open PySem.PassesOwn renaming never → Al5
open PySem.NumText renaming digitsVal → Am0
open ForInStep renaming yield → Am1
open PySem.Sem renaming wp → An5
open Or renaming inl → Ao0, inr → AF3
open PySem.Heap renaming FlyingW → Ao1, SameBut → Ao8, HeldW → Aq5, get?_none_of_le → AC2, get?_push_cases → AC4
open PySem.W.Looks renaming here → Ao6
open List renaming append_nil → Ap1, nodup_cons → Ap2, map_take → Ap3, flatten_cons → Ap4, mem_append_left → Aq3, mem_of_mem_drop → Aq6, cons_append → Aq8, find?_cons → Ar9, getElem?_set_self → As8, map_nil → At0, filter_cons → At9, getElem_map → Au0, getElem?_set_ne → Au4, eq_nil_of_length_eq_zero → Au6, mem_of_mem_take → Au7, range_succ → Av0, filterMap_cons → Av2, length_reverse → Av6, map_congr_left → Av7, map_replicate → Ax0, drop_sublist → Ax8, any_cons → Ay0, map_drop → Ay2, not_mem_nil → Az0, filter_eq_nil_iff → Az6, length_eq_one_iff → Az8, of_mem_zip → AA2, forIn_cons → AA6, length_filter_le → AB3, countP_le_length → AB5, drop_drop → AC6, take_succ_cons → AD3, filter_append → AE1, contains_cons → AE2, getElem_range → AE3, range'_succ → AG8, any_eq_true → AG9, nil_append → AH6, drop_zero → AI8, drop_take → AJ0, take_succ → AJ1, getElem?_eq_none_iff → AK1
open PySem.Builtin.List renaming listTooLong → Ap7, listSubscript? → AD9, listAllItems → AF1
open PySem.Calls renaming Name_function_global → Ap9, spliced_cons → Ar7, loadGlobal_global → Ay5
open Array renaming length_toList → Aq9, mk → Aw1, append_assoc → AD7
open Nat renaming mul_le_mul_left → Ar4, add_sub_cancel → As5, min_eq_left → Av5, min_eq_right → Az2, mul_succ → AB0, two_pow_pos → AB4, mul_le_mul_right → AD1, lt_of_le_of_lt → AE8, le_of_lt → AF8, ne_of_gt → AF9, le_of_eq → AG0, sub_self → AG2, zero_add → AG4, lt_succ_of_le → AG5, lt_succ_self → AH1, le_of_not_lt → AH2
open Bool renaming true_and → Ar5, false_eq_true → As2, and_true → AD8, not_eq_true' → AF5, or_eq_true → AH7
open PySem.SeqAt renaming EqAt → At8
open PySem.Within renaming cons → Au9
open PySem.Code renaming quiet_builtin → Aw9
open PySem.Data renaming fields → Ax5, cell → Ay9
open PySem.SeqAt.EqAt renaming same → Ax7, int_str → AB1, str_int → AB2, none_bool → AI5, bool_none → AI6, bool_bool → AI7, none_int → AJ3, none_str → AJ4, bool_int → AJ5, bool_str → AJ6, int_none → AJ7, int_bool → AJ8, str_none → AJ9, str_bool → AK0
open List.Pairwise renaming nil → AA5
open PySem.SeqAt.RcNeAt renaming lists_lengths → AE0, lists → AI9
open Sum renaming inl → AF6, inr → AF7
open PySem.Heap.IsSliceOf renaming new → AH5
open PySem.Heap.SameBut renaming update → AI2
open PySem.Paired renaming length → AI3
open Int renaming fdiv_eq_ediv_of_nonneg → AJ2
theorem lI[Decidable p](h:¬p):decide p=false:=decide_eq_false h
theorem iT[Decidable p](h:p):decide p=true:=decide_eq_true h
theorem gi[Decidable p]:decide p=true<->p:=decide_eq_true_iff
theorem bV{a b:Prop}(h:a)(n:¬a):b:=absurd h n
theorem bS.{u}{c:Prop}{h:Decidable c}(n:c){α:Sort u}{t e:α}:ite c t e=t:=if_pos n
theorem bG.{u}{c:Prop}{h:Decidable c}(n:¬c){α:Sort u}{t e:α}:ite c t e=e:=if_neg n
open PySem.Challenge renaming pw_loomwright_k06_rows_refused → pWw, rw_loomwright_k06_rows_refused → rWw
local macro_rules | `(tactic| w_means)=>`(tactic| first | exact .inl rfl | exact .inr rfl | assumption)
open List renaming length_map → Aa0, getD_eq_getElem?_getD → Aa2, getElem?_eq_getElem → Aa3, length_append → Aa5, mem_cons → Aa7, mem_cons_of_mem → Aa8, length_cons → Aa9, mem_cons_self → Ab0, size_toArray → Ab6, range → Ab7, getElem?_eq_some_iff → Ab8, mem_append_right → Ac0, getElem?_map → Ac1, map_append → Ac2, map_cons → Ac3, mem_map → Ac4, length_take → Ac5, mem_singleton → Ac9, mem_of_getElem? → Ad0, replicate → Ad1, length_drop → Ad2, mem_append → Ad6, getElem?_append_left → Ad9, all_eq_true → Ae0, map_map → Ae2, getElem?_append_right → Ae3, mem_range → Ae4, take_of_length_le → Ae6, length_pos_iff → Ae9, sum_cons → Af0, lookup_cons → Af2, drop_eq_getElem_cons → Af7, ext_getElem → Af8, replicate_succ → Af9, drop_of_length_le → Ag3, reverse_cons → Ag6, mem_filter → Ah0, length_eq_zero_iff → Ah1, append_assoc → Ah3, length → Ah4, length_nil → Ah5, getElem_mem → Ah6, take_length → Ah7, length_replicate → Ah8, length_singleton → Ah9, getElem?_eq_none → Ai3, lookup → Ai4
open PySem renaming wpAny_bind → Aa1, wpAny_pure → Ab2, wpAny_mono → Ac7, wpAny_field → Ad8, wpAny_holding → Ae8, wpAny_Call_Name_kw → Af4, wpAny_loadPart_at → Ag0, wpAny_standAt → Ag1, wpAny_callSpecial?_slot → Ag2, wpAny_truthy_bool → Ag4, wpAny_seqItems → Ag9, wpAny_call → Ah2, wpAny_setField_rec → Ai1
open PySem.Heap renaming get?_push_of_some → Aa4, lt_size → Ab1, get?_push_size → Ab9, get?_update_other → Ad7, get?_update_self → Ae7, size_push → Ai5
open Nat renaming le_refl → Aa6, le_trans → Ab4, lt_of_lt_of_le → Ac6, ne_of_lt → Ac8, zero_le → Ad4, le_succ → Ag5, lt_irrefl → Ag7, eq_zero_or_pos → Ai2
open Bool renaming false_ne_true → Ab3, and_eq_true → Ab5, eq_iff_iff → Ad5, false_and → Af6, and_false → Ag8
open Int renaming toNat_natCast → Ad3, emod_nonneg → Af1, emod_lt_of_pos → Af5
open Option renaming some → Ae1, map_eq_some_iff → Ae5
open Array renaming getElem?_eq_some_iff → Af3, getElem?_toList → Ai0
namespace L2
open PySem
noncomputable def BE(s:Stmt)(j:Nat):Stmt:=match s with
 | .ClassDef _ _ _ body _ _ _ _ _ _ _=>body.getD j (.Pass ⟨0,0,0,0⟩)
 | _=> .Pass ⟨0,0,0,0⟩
noncomputable def GN(s:Stmt):Arguments:=match s with
 | .FunctionDef _ a _ _ _ _ _ _ _ _=>a
 | _=>{ posonlyargs:=[],args:=[],vararg:=aV,kwonlyargs:=[],kw_defaults:=[],kwarg:=aV,defaults:=[] }
noncomputable def CM(s:Stmt):List Stmt:=match s with
 | .FunctionDef _ _ b _ _ _ _ _ _ _=>b
 | _=>[]
noncomputable def Ah(s:Stmt):Scope:=match s with
 | .FunctionDef _ _ _ _ _ _ sc _ _ _=>sc
 | _=>{ kind:= .function,names:=[],isGenerator:=false,isCoroutine:=false }
end L2
namespace K06
open PySem
noncomputable def top(i:Nat):Stmt:=pWw.main.body.getD i (.Pass ⟨0,0,0,0⟩)
end K06
namespace HX
open PySem PySem.W PySem.Calls PyProof.Rows
noncomputable def topT(tb:String->Option Aq7)(p:Program)(w:bg)(n₀:Nat)(ann:Option Value):Nat->SharedT->Thread->Option SharedT
 | 0,_,_=>aV
 | n+1,s,t=>match through t with
  | true=>aS s
  | false=>match stepOk n₀ ann t with
   | false=>aV
   | true=>match stepT (denote tb) p w s t with
    | some (s',t')=>topT tb p w n₀ ann n s' t'
    | none=>aV
theorem pe{tb:String->Option Aq7}{p:Program}{w:bg}{n₀:Nat}{ann:Option Value}:∀{n:Nat} {s s':SharedT} {t:Thread},topT tb p w n₀ ann n s t=aS s'->topRun tb p w n₀ ann n s.abs t=aS s'.abs
 | 0,_,_,_,h=>by cases h
 | n+1,s,s',t,h=>by
  unfold topT at h;unfold topRun;cases ht:through t with
  | true=>rw[ht] at h;cases h;rfl
  | false=>
   rw[ht] at h;cases hk:stepOk n₀ ann t with
   | false=>rw[hk] at h;cases h
   | true=>
    rw[hk] at h;cases hs:stepT (denote tb) p w s t with
    | none=>rw[hs] at h;cases h
    | some x=>
     obtain⟨s2,t2⟩:=x;rw[hs] at h;dsimp only;rw[stepT_spec hs];exact pe h
noncomputable def ofL:List Obj->Nat->BT->BT
 | [],_,t=>t
 | o::r,i,t=>ofL r (i+1) (t.ins i o)
noncomputable def jX(P:Az9):BT:=ofL (Am2 P).objs.toList 0 .nil
theorem qw{p q:Program}{loose:List Str}{Xt:aT->Bool}{α:Type}{Yf:aT->α}{Ya:bg->α}{N:Nat}{g0:Bool}
  (e:opening p=plainProg p.main.scope.names) (hN:Nat.ble 600 N=true) (f:∀s,fenceModules? p s=aS s)
  (hb:∀P:Az9,(absHeap (jX P) 11 {},An8,(Am2 P).isNs Al3,(Am2 P).objs.size,(Am2 P).nsMap Al3 "__annotations__")=(Am2 P,An8,true,11,aS (.ref 6)))
  (run:∀(w:bg) (os:OsState),∃s:aT,topRun Ax9 p w 11 (aS (.ref 6)) N (⟨jX w.params,11,{},Aw1 [],An8,boot_toks,os⟩:SharedT).abs (topStub p)=aS s/\((staticsOk (As7 p.main.body) (Am2 w.params) s.heap&&namesBound p s.heap&&gensDone s&&laidKept (Am2 w.params) s.heap),openSeen q loose (As7 p.main.body) Xt g0 s,Yf s)=(true,openGood q loose,Ya w)):LeftO p q loose Xt Yf Ya N g0:=λw=>by
 obtain⟨⟨h,gs,d,k,os⟩,e1,e'⟩:=Ae5.mp (boot_open (p:=p) (N:=N) e hN f w);obtain⟨rfl,rfl,rfl,rfl⟩:h=Am2 w.params/\gs=Aw1 []/\d=An8/\k=boot_toks:=by simpa using e'
 have qx:=hb w.params;simp only[Prod.mk.injEq] at qx;obtain⟨b1,_,b2,b3,b4⟩:=qx;obtain⟨s,r,l⟩:=run w os;obtain⟨l1,l2,l3⟩:_/\_/\_:=by simpa only[Prod.mk.injEq] using l
 have b0:(⟨jX w.params,11,{},Aw1 [],An8,boot_toks,os⟩:SharedT).abs=⟨Am2 w.params,Aw1 [],An8,boot_toks,os⟩:=by
  show (⟨absHeap (jX w.params) 11 {},_,_,_,_⟩:aT)=_;rw[b1]
 rw[b0] at r;have t:topFrom Ax9 p w N ⟨Am2 w.params,Aw1 [],An8,boot_toks,os⟩=aS s:=by
  unfold topFrom;dsimp only;rw[b2,b3,b4];show Option.bind (topRun Ax9 p w 11 (aS (.ref 6)) N ⟨Am2 w.params,Aw1 [],An8,boot_toks,os⟩ (topStub p)) _=_;rw[r];show (match staticsOk (As7 p.main.body) (Am2 w.params) s.heap&&namesBound p s.heap&&gensDone s&&laidKept (Am2 w.params) s.heap with | true=>_ | false=>_)=_;rw[l1]
 unfold openEnds;rw[e1];show (topFrom Ax9 p w N _).map _=_;rw[t];exact congrArg aS (Prod.ext l2 l3)
theorem nine{A B C D E F G H I:Type}{o:A×B×C×D×E×F×G×H×I}{a:A}{b:B}{c:C}{d:D}{e:E}{f:F}{g:G}{h:H}{i:I}(l:(o.1,o.2.1,o.2.2.1,o.2.2.2.1)=(a,b,c,d))(m:(o.2.2.2.2.1,o.2.2.2.2.2.1,o.2.2.2.2.2.2.1,o.2.2.2.2.2.2.2.1,o.2.2.2.2.2.2.2.2)=(e,f,g,h,i)):o=(a,b,c,d,e,f,g,h,i):=by
 cases l;cases m;rfl
theorem three{α β γ:Type}{a a':α}{b b':β}{c c':γ}(h:(a,c)=(a',c'))(k:b=b'):(a,b,c)=(a',b',c'):=by
 cases h;cases k;rfl
theorem hb(P:Az9):(absHeap (jX P) 11 {},An8,(Am2 P).isNs Al3,(Am2 P).objs.size,(Am2 P).nsMap Al3 "__annotations__")=(Am2 P,An8,true,11,aS (.ref 6)):=by kernel_rfl
end HX
namespace K06
open PySem L2 PySem.W PySem.Calls PyProof.Rows
noncomputable abbrev Ob:=Az9->Obj
noncomputable abbrev dE(P:Az9)(s:Str)(t:Tok)(v:Value):DictEntry:=⟨PyData.keyHash P s, .str s t,v⟩
noncomputable abbrev dR(P:Az9)(s:Str)(t:Tok)(a:Addr):DictEntry:=⟨PyData.keyHash P s, .str s t, .ref a⟩
noncomputable abbrev tu(xs:Array Value):Obj:=⟨.type "tuple",aV, .seq xs 0, #[]⟩
noncomputable abbrev di(es:Array DictEntry)(n:Nat):Obj:=⟨.type "dict",aV, .dict es n, #[]⟩
noncomputable abbrev fo(n q:Str)(st:Stmt)(m:Str)(t:Tok)(c:Addr):Obj:=⟨.type "function",aV, .func (Au1 n q (GN st) (CM st) (Ah st) .none .none .none (.str m t) aV (.ref c) .none), #[]⟩
noncomputable abbrev co(n q:Str)(t:Tok)(l ac nl:Int)(a:Addr)(b:Bool)(r:Addr)(c d e:Value)(k:Int)(t4:Tok):Obj:=⟨.type "code",aV, .fields #[.str n t, .str q (t+1), .str "/claim/cut.py" (t+2), .int l 0, .int ac 0, .int 0 0, .int 0 0, .int nl 0, .ref a, .bool b, .int 181 0, .ref r, .none,c,d,e, .int k 0, .int l 0, .str "/claim/cut.py" t4], #[]⟩
noncomputable def o3:Ob:=λP=>di #[dE P "__name__" 165 (.str "law_loomwright_k06_rows_refused" 714),dE P "__doc__" 166 .none,dE P "__package__" 167 .none,dE P "__loader__" 168 (.builtin "__main__.__loader__#opaque"),dE P "__spec__" 169 .none,dR P "__annotations__" 170 6,dR P "__builtins__" 171 4,dE P "__file__" 173 (.str "/claim/cut.py" 172),dE P "__cached__" 174 .none,dE P "MOST_SHAFTS" 188 (.int 16 187),dE P "MOST_TREADLES" 190 (.int 16 189),dE P "MOST_ENDS" 192 (.int 60 191),dE P "MOST_PICKS" 194 (.int 60 193),dR P "LoomError" 214 24,dR P "BadRow" 241 44,dR P "BadWord" 266 63,dR P "TooMany" 293 82,dR P "NotPlain" 320 101,dR P "NotGrown" 347 120,dR P "BadDraft" 363 132,dR P "BadCloth" 379 144,dR P "OutOfPlace" 395 156,dE P "FIGURES" 399 (.str "0123456789" 398),dE P "MOST_FIGURES" 401 (.int 3 400),dE P "COLOURS" 403 (.str "abcdefghijklmnopqrstuvwxyz" 402),dR P "is_whole" 410 165,dR P "is_among" 419 172,dR P "is_colour" 426 179,dR P "number_of" 432 184,dR P "numbers_told" 438 189,dR P "words_of" 446 196,dR P "need" 456 203,dR P "is_list" 465 210,dR P "is_rising" 475 217,dR P "are_rising" 481 222,dR P "are_colours" 487 227,dR P "need_draft" 493 232,dR P "Draft" 546 266,dE P "LEAST_TIMES" 550 (.int 2 549),dE P "MOST_TIMES" 552 (.int 60 551),dE P "OPENING" 554 (.str "(" 553),dE P "CLOSING" 556 (.str ")" 555),dR P "times_of" 564 277,dR P "can_stand" 574 284,dR P "taken" 585 291,dR P "spread" 600 298,dE P "NONE" 604 (.str "-" 603),dE P "TOGETHER" 606 (.str "+" 605),dR P "words_behind" 616 305,dR P "read_count" 627 312,dR P "rising_words" 639 319,dR P "read_tie" 650 326,dR P "read_items" 661 333,dR P "read_threading" 673 340,dR P "trodden_words" 680 347,dR P "is_pick_word" 689 354,dR P "read_treading" 695 359,dR P "read_colours" 707 366,dR P "read_draft" 713 371,dR P "_law_mixed" 723 378,dR P "_law_kinds" 729 383,dR P "_law_same" 735 388,dR P "_law_cells" 741 393,dR P "_law_numbers" 747 398,dR P "_law_draft" 753 403,dR P "_law_copied" 759 408,dR P "_law_spoilt" 767 415,dR P "_law_rows" 773 420,dR P "_law_pick" 779 425,dR P "_law_again" 790 432,dR P "_law_grouped" 803 439,dR P "_law_times" 809 444,dR P "_law_level" 822 451,dR P "_law_group" 833 458,dR P "_law_due" 844 465,dR P "_law_bent" 859 472,dR P "_law_number" 865 477,dR P "_law_rising" 876 484,dR P "_law_picks" 882 489,dR P "_law_named" 892 496,dR P "_law_counted" 901 503,dR P "_law_itemed" 914 510,dR P "_law_tied" 920 515,dR P "_law_read" 926 520,dR P "_law_told" 936 527,dR P "law" 942 532] 86
noncomputable def o15:Ob:=λP=>tu #[(.type "ValueError")]
noncomputable def o22:Ob:=λP=>tu #[]
noncomputable def o23:Ob:=λP=>di #[dE P "__module__" 204 (.str "loomwright.errors" 195),dE P "__firstlineno__" 208 (.int 6 207),dR P "__static_attributes__" 209 22,dR P "__weakref__" 211 25,dE P "__doc__" 212 .none] 3
noncomputable def o24:Ob:=λP=>⟨(.type "type"),aV,(.cls ⟨"LoomError",[(.type "ValueError")],[(.ref 24),(.type "ValueError"),(.type "Exception"),(.type "BaseException"),(.type "object")],23,"LoomError",true,[],[(.ref 44),(.ref 63),(.ref 82),(.ref 101),(.ref 120),(.ref 132),(.ref 144),(.ref 156)],false,aV,false⟩), #[(aS (.ref 15)),aV,(aS (.str "LoomError" 197)),(aS (.str "LoomError" 205)),(aS (.builtin "ValueError.__new__")),(aS (.bool true))]⟩
noncomputable def o25:Ob:=λP=>⟨(.type "getset_descriptor"),aV,(.fields #[(.str "__weakref__" 210),(.ref 24),(.builtin "ExceptionGroup.__weakref__"), .none]), #[]⟩
noncomputable def o28:Ob:=λP=>tu #[(.ref 24)]
noncomputable def o40:Ob:=λP=>co "__init__" "BadRow.__init__" 227 10 3 3 35 true 36 (.ref 37) (.ref 38) (.ref 39) 233 234
noncomputable def o41:Ob:=λP=>fo "__init__" "BadRow.__init__" (BE (top 6) 0) "loomwright.errors" 195 40
noncomputable def o42:Ob:=λP=>tu #[(.str "row" 236),(.str "word" 237)]
noncomputable def o43:Ob:=λP=>di #[dE P "__module__" 222 (.str "loomwright.errors" 195),dE P "__firstlineno__" 226 (.int 8 225),dR P "__init__" 235 41,dR P "__static_attributes__" 238 42,dE P "__doc__" 239 .none] 2
noncomputable def o44:Ob:=λP=>⟨(.type "type"),aV,(.cls ⟨"BadRow",[(.ref 24)],[(.ref 44),(.ref 24),(.type "ValueError"),(.type "Exception"),(.type "BaseException"),(.type "object")],43,"BadRow",true,[],[],false,aV,false⟩), #[(aS (.ref 28)),aV,(aS (.str "BadRow" 215)),(aS (.str "BadRow" 223)),(aS (.builtin "ValueError.__new__")),(aS (.bool true))]⟩
noncomputable def o47:Ob:=λP=>tu #[(.ref 24)]
noncomputable def o59:Ob:=λP=>co "__init__" "BadWord.__init__" 254 16 2 3 54 true 55 (.ref 56) (.ref 57) (.ref 58) 259 260
noncomputable def o60:Ob:=λP=>fo "__init__" "BadWord.__init__" (BE (top 7) 0) "loomwright.errors" 195 59
noncomputable def o61:Ob:=λP=>tu #[(.str "place" 262)]
noncomputable def o62:Ob:=λP=>di #[dE P "__module__" 249 (.str "loomwright.errors" 195),dE P "__firstlineno__" 253 (.int 14 252),dR P "__init__" 261 60,dR P "__static_attributes__" 263 61,dE P "__doc__" 264 .none] 2
noncomputable def o63:Ob:=λP=>⟨(.type "type"),aV,(.cls ⟨"BadWord",[(.ref 24)],[(.ref 63),(.ref 24),(.type "ValueError"),(.type "Exception"),(.type "BaseException"),(.type "object")],62,"BadWord",true,[],[],false,aV,false⟩), #[(aS (.ref 47)),aV,(aS (.str "BadWord" 242)),(aS (.str "BadWord" 250)),(aS (.builtin "ValueError.__new__")),(aS (.bool true))]⟩
noncomputable def o66:Ob:=λP=>tu #[(.ref 24)]
noncomputable def o78:Ob:=λP=>co "__init__" "TooMany.__init__" 279 21 3 3 73 true 74 (.ref 75) (.ref 76) (.ref 77) 285 286
noncomputable def o79:Ob:=λP=>fo "__init__" "TooMany.__init__" (BE (top 8) 0) "loomwright.errors" 195 78
noncomputable def o80:Ob:=λP=>tu #[(.str "many" 288),(.str "what" 289)]
noncomputable def o81:Ob:=λP=>di #[dE P "__module__" 274 (.str "loomwright.errors" 195),dE P "__firstlineno__" 278 (.int 19 277),dR P "__init__" 287 79,dR P "__static_attributes__" 290 80,dE P "__doc__" 291 .none] 2
noncomputable def o82:Ob:=λP=>⟨(.type "type"),aV,(.cls ⟨"TooMany",[(.ref 24)],[(.ref 82),(.ref 24),(.type "ValueError"),(.type "Exception"),(.type "BaseException"),(.type "object")],81,"TooMany",true,[],[],false,aV,false⟩), #[(aS (.ref 66)),aV,(aS (.str "TooMany" 267)),(aS (.str "TooMany" 275)),(aS (.builtin "ValueError.__new__")),(aS (.bool true))]⟩
noncomputable def o85:Ob:=λP=>tu #[(.ref 24)]
noncomputable def o97:Ob:=λP=>co "__init__" "NotPlain.__init__" 306 27 3 3 92 true 93 (.ref 94) (.ref 95) (.ref 96) 312 313
noncomputable def o98:Ob:=λP=>fo "__init__" "NotPlain.__init__" (BE (top 9) 0) "loomwright.errors" 195 97
noncomputable def o99:Ob:=λP=>tu #[(.str "number" 315),(.str "what" 316)]
noncomputable def Y7:Ob:=λP=>di #[dE P "__module__" 301 (.str "loomwright.errors" 195),dE P "__firstlineno__" 305 (.int 25 304),dR P "__init__" 314 98,dR P "__static_attributes__" 317 99,dE P "__doc__" 318 .none] 2
noncomputable def Ym:Ob:=λP=>⟨(.type "type"),aV,(.cls ⟨"NotPlain",[(.ref 24)],[(.ref 101),(.ref 24),(.type "ValueError"),(.type "Exception"),(.type "BaseException"),(.type "object")],100,"NotPlain",true,[],[],false,aV,false⟩), #[(aS (.ref 85)),aV,(aS (.str "NotPlain" 294)),(aS (.str "NotPlain" 302)),(aS (.builtin "ValueError.__new__")),(aS (.bool true))]⟩
noncomputable def Zp:Ob:=λP=>tu #[(.ref 24)]
noncomputable def ZU:Ob:=λP=>co "__init__" "NotGrown.__init__" 333 33 3 3 111 true 112 (.ref 113) (.ref 114) (.ref 115) 339 340
noncomputable def Y6:Ob:=λP=>fo "__init__" "NotGrown.__init__" (BE (top 10) 0) "loomwright.errors" 195 116
noncomputable def ag:Ob:=λP=>tu #[(.str "column" 342),(.str "row" 343)]
noncomputable def ay:Ob:=λP=>di #[dE P "__module__" 328 (.str "loomwright.errors" 195),dE P "__firstlineno__" 332 (.int 31 331),dR P "__init__" 341 117,dR P "__static_attributes__" 344 118,dE P "__doc__" 345 .none] 2
noncomputable def YD:Ob:=λP=>⟨(.type "type"),aV,(.cls ⟨"NotGrown",[(.ref 24)],[(.ref 120),(.ref 24),(.type "ValueError"),(.type "Exception"),(.type "BaseException"),(.type "object")],119,"NotGrown",true,[],[],false,aV,false⟩), #[(aS (.ref 104)),aV,(aS (.str "NotGrown" 321)),(aS (.str "NotGrown" 329)),(aS (.builtin "ValueError.__new__")),(aS (.bool true))]⟩
noncomputable def YX:Ob:=λP=>tu #[(.ref 24)]
noncomputable def ZA:Ob:=λP=>tu #[]
noncomputable def ZF:Ob:=λP=>di #[dE P "__module__" 355 (.str "loomwright.errors" 195),dE P "__firstlineno__" 359 (.int 37 358),dR P "__static_attributes__" 360 130,dE P "__doc__" 361 .none] 2
noncomputable def ZY:Ob:=λP=>⟨(.type "type"),aV,(.cls ⟨"BadDraft",[(.ref 24)],[(.ref 132),(.ref 24),(.type "ValueError"),(.type "Exception"),(.type "BaseException"),(.type "object")],131,"BadDraft",true,[],[],false,aV,false⟩), #[(aS (.ref 123)),aV,(aS (.str "BadDraft" 348)),(aS (.str "BadDraft" 356)),(aS (.builtin "ValueError.__new__")),(aS (.bool true))]⟩
noncomputable def aA:Ob:=λP=>tu #[(.ref 24)]
noncomputable def ZQ:Ob:=λP=>tu #[]
noncomputable def X8:Ob:=λP=>di #[dE P "__module__" 371 (.str "loomwright.errors" 195),dE P "__firstlineno__" 375 (.int 39 374),dR P "__static_attributes__" 376 142,dE P "__doc__" 377 .none] 2
noncomputable def YA:Ob:=λP=>⟨(.type "type"),aV,(.cls ⟨"BadCloth",[(.ref 24)],[(.ref 144),(.ref 24),(.type "ValueError"),(.type "Exception"),(.type "BaseException"),(.type "object")],143,"BadCloth",true,[],[],false,aV,false⟩), #[(aS (.ref 135)),aV,(aS (.str "BadCloth" 364)),(aS (.str "BadCloth" 372)),(aS (.builtin "ValueError.__new__")),(aS (.bool true))]⟩
noncomputable def Yq:Ob:=λP=>tu #[(.ref 24)]
noncomputable def YF:Ob:=λP=>tu #[]
noncomputable def au:Ob:=λP=>di #[dE P "__module__" 387 (.str "loomwright.errors" 195),dE P "__firstlineno__" 391 (.int 41 390),dR P "__static_attributes__" 392 154,dE P "__doc__" 393 .none] 2
noncomputable def Ye:Ob:=λP=>⟨(.type "type"),aV,(.cls ⟨"OutOfPlace",[(.ref 24)],[(.ref 156),(.ref 24),(.type "ValueError"),(.type "Exception"),(.type "BaseException"),(.type "object")],155,"OutOfPlace",true,[],[],false,aV,false⟩), #[(aS (.ref 147)),aV,(aS (.str "OutOfPlace" 380)),(aS (.str "OutOfPlace" 388)),(aS (.builtin "ValueError.__new__")),(aS (.bool true))]⟩
noncomputable def Yt:Ob:=λP=>co "is_whole" "is_whole" 404 47 1 3 159 true 160 (.ref 161) (.ref 162) (.ref 163) 408 409
noncomputable def Zh:Ob:=λP=>fo "is_whole" "is_whole" (top 18) "loomwright.words" 396 164
noncomputable def Zc:Ob:=λP=>co "is_among" "is_among" 411 49 3 3 166 true 167 (.ref 168) (.ref 169) (.ref 170) 417 418
noncomputable def X4:Ob:=λP=>fo "is_among" "is_among" (top 19) "loomwright.words" 396 171
noncomputable def ak:Ob:=λP=>co "is_colour" "is_colour" 420 51 1 3 173 true 174 (.ref 175) (.ref 176) (.ref 177) 424 425
noncomputable def ae:Ob:=λP=>fo "is_colour" "is_colour" (top 20) "loomwright.words" 396 178
noncomputable def Y9:Ob:=λP=>co "number_of" "number_of" 427 53 1 3 180 true 181 .none .none (.ref 182) 430 431
noncomputable def Z6:Ob:=λP=>fo "number_of" "number_of" (top 21) "loomwright.words" 396 183
noncomputable def Zm:Ob:=λP=>co "numbers_told" "numbers_told" 433 61 1 3 185 true 186 .none .none (.ref 187) 436 437
noncomputable def aN:Ob:=λP=>fo "numbers_told" "numbers_told" (top 22) "loomwright.words" 396 188
noncomputable def az:Ob:=λP=>co "words_of" "words_of" 439 63 1 3 190 true 191 (.ref 192) (.ref 193) (.ref 194) 444 445
noncomputable def Zo:Ob:=λP=>fo "words_of" "words_of" (top 23) "loomwright.words" 396 195
noncomputable def ZP:Ob:=λP=>tu #[]
noncomputable def Z7:Ob:=λP=>co "need" "need" 449 71 2 3 197 true 198 (.ref 199) (.ref 200) (.ref 201) 454 455
noncomputable def Zv:Ob:=λP=>fo "need" "need" (top 25) "loomwright.draft" 447 202
noncomputable def X6:Ob:=λP=>co "is_list" "is_list" 457 74 3 3 204 true 205 (.ref 206) (.ref 207) (.ref 208) 463 464
noncomputable def YN:Ob:=λP=>fo "is_list" "is_list" (top 26) "loomwright.draft" 447 209
noncomputable def ZD:Ob:=λP=>co "is_rising" "is_rising" 466 76 2 3 211 true 212 (.ref 213) (.ref 214) (.ref 215) 473 474
noncomputable def YJ:Ob:=λP=>fo "is_rising" "is_rising" (top 27) "loomwright.draft" 447 216
noncomputable def Zg:Ob:=λP=>co "are_rising" "are_rising" 476 85 2 3 218 true 219 .none .none (.ref 220) 479 480
noncomputable def Yg:Ob:=λP=>fo "are_rising" "are_rising" (top 28) "loomwright.draft" 447 221
noncomputable def aE:Ob:=λP=>co "are_colours" "are_colours" 482 87 2 3 223 true 224 .none .none (.ref 225) 485 486
noncomputable def Yr:Ob:=λP=>fo "are_colours" "are_colours" (top 29) "loomwright.draft" 447 226
noncomputable def X5:Ob:=λP=>co "need_draft" "need_draft" 488 89 7 3 228 true 229 .none .none (.ref 230) 491 492
noncomputable def Yh:Ob:=λP=>fo "need_draft" "need_draft" (top 30) "loomwright.draft" 447 231
noncomputable def Y8:Ob:=λP=>co "__init__" "Draft.__init__" 506 102 8 3 240 true 241 .none .none (.ref 242) 509 510
noncomputable def aM:Ob:=λP=>fo "__init__" "Draft.__init__" (BE (top 31) 0) "loomwright.draft" 447 243
noncomputable def ZH:Ob:=λP=>co "told" "Draft.told" 512 112 1 3 245 true 246 .none .none (.ref 247) 515 516
noncomputable def aP:Ob:=λP=>fo "told" "Draft.told" (BE (top 31) 1) "loomwright.draft" 447 248
noncomputable def aD:Ob:=λP=>co "ends" "Draft.ends" 518 115 1 3 250 true 251 (.ref 252) (.ref 253) (.ref 254) 522 523
noncomputable def Yl:Ob:=λP=>fo "ends" "Draft.ends" (BE (top 31) 2) "loomwright.draft" 447 255
noncomputable def X7:Ob:=λP=>co "picks" "Draft.picks" 525 118 1 3 257 true 258 (.ref 259) (.ref 260) (.ref 261) 529 530
noncomputable def Y2:Ob:=λP=>fo "picks" "Draft.picks" (BE (top 31) 3) "loomwright.draft" 447 262
noncomputable def ar:Ob:=λP=>tu #[(.str "shafts" 532),(.str "threading" 533),(.str "ties" 534),(.str "treading" 535),(.str "treadles" 536),(.str "warp" 537),(.str "weft" 538)]
noncomputable def Yi:Ob:=λP=>di #[dE P "__module__" 501 (.str "loomwright.draft" 447),dE P "__firstlineno__" 505 (.int 100 504),dR P "__init__" 511 244,dR P "told" 517 249,dR P "ends" 524 256,dR P "picks" 531 263,dR P "__static_attributes__" 539 264,dR P "__dict__" 541 267,dR P "__weakref__" 543 268,dE P "__doc__" 544 .none] 4
noncomputable def Z3:Ob:=λP=>⟨(.type "type"),aV,(.cls ⟨"Draft",[(.type "object")],[(.ref 266),(.type "object")],265,"Draft",true,[],[],false,aV,false⟩), #[aV,aV,(aS (.str "Draft" 494)),(aS (.str "Draft" 502)),(aS (.builtin "object.__new__")),(aS (.bool true))]⟩
noncomputable def YL:Ob:=λP=>⟨(.type "getset_descriptor"),aV,(.fields #[(.str "__dict__" 540),(.ref 266),(.builtin "function.__dict__"),(.builtin "function.__dict__#set")]), #[]⟩
noncomputable def ZW:Ob:=λP=>⟨(.type "getset_descriptor"),aV,(.fields #[(.str "__weakref__" 542),(.ref 266),(.builtin "ExceptionGroup.__weakref__"), .none]), #[]⟩
noncomputable def ZK:Ob:=λP=>co "times_of" "times_of" 557 125 1 3 271 true 272 (.ref 273) (.ref 274) (.ref 275) 562 563
noncomputable def ZS:Ob:=λP=>fo "times_of" "times_of" (top 37) "loomwright.groups" 547 276
noncomputable def Yw:Ob:=λP=>co "can_stand" "can_stand" 565 130 4 3 278 true 279 (.ref 280) (.ref 281) (.ref 282) 572 573
noncomputable def YM:Ob:=λP=>fo "can_stand" "can_stand" (top 38) "loomwright.groups" 547 283
noncomputable def Yd:Ob:=λP=>co "taken" "taken" 575 136 3 3 285 true 286 (.ref 287) (.ref 288) (.ref 289) 583 584
noncomputable def Zz:Ob:=λP=>fo "taken" "taken" (top 39) "loomwright.groups" 547 290
noncomputable def aw:Ob:=λP=>co "spread" "spread" 586 148 3 3 292 true 293 (.ref 294) (.ref 295) (.ref 296) 598 599
noncomputable def Zu:Ob:=λP=>fo "spread" "spread" (top 40) "loomwright.groups" 547 297
noncomputable def Z0:Ob:=λP=>co "words_behind" "words_behind" 607 165 3 3 299 true 300 (.ref 301) (.ref 302) (.ref 303) 614 615
noncomputable def ZT:Ob:=λP=>fo "words_behind" "words_behind" (top 44) "loomwright.drafttext" 601 304
noncomputable def Zy:Ob:=λP=>co "read_count" "read_count" 617 172 4 3 306 true 307 (.ref 308) (.ref 309) (.ref 310) 625 626
noncomputable def Yu:Ob:=λP=>fo "read_count" "read_count" (top 45) "loomwright.drafttext" 601 311
noncomputable def ZZ:Ob:=λP=>co "rising_words" "rising_words" 628 179 2 3 313 true 314 (.ref 315) (.ref 316) (.ref 317) 637 638
noncomputable def Yb:Ob:=λP=>fo "rising_words" "rising_words" (top 46) "loomwright.drafttext" 601 318
noncomputable def Y3:Ob:=λP=>co "read_tie" "read_tie" 640 187 3 3 320 true 321 (.ref 322) (.ref 323) (.ref 324) 648 649
noncomputable def Yk:Ob:=λP=>fo "read_tie" "read_tie" (top 47) "loomwright.drafttext" 601 325
noncomputable def YW:Ob:=λP=>co "read_items" "read_items" 651 195 4 3 327 true 328 (.ref 329) (.ref 330) (.ref 331) 659 660
noncomputable def YK:Ob:=λP=>fo "read_items" "read_items" (top 48) "loomwright.drafttext" 601 332
noncomputable def Z2:Ob:=λP=>tu #[]
noncomputable def ZE:Ob:=λP=>tu #[(.str "rows" 665),(.str "number" 666),(.str "shafts" 667),(.str "words" 668),(.str "items" 669)]
noncomputable def YC:Ob:=λP=>tu #[(.str "shafts" 670)]
noncomputable def Yy:Ob:=λP=>co "read_threading" "read_threading" 662 200 3 3 334 true 335 (.ref 336) (.ref 337) (.ref 338) 671 672
noncomputable def aj:Ob:=λP=>fo "read_threading" "read_threading" (top 49) "loomwright.drafttext" 601 339
noncomputable def ZJ:Ob:=λP=>co "trodden_words" "trodden_words" 674 204 1 3 341 true 342 (.ref 343) (.ref 344) (.ref 345) 678 679
noncomputable def ZX:Ob:=λP=>fo "trodden_words" "trodden_words" (top 50) "loomwright.drafttext" 601 346
noncomputable def aF:Ob:=λP=>co "is_pick_word" "is_pick_word" 681 206 2 3 348 true 349 (.ref 350) (.ref 351) (.ref 352) 687 688
noncomputable def aG:Ob:=λP=>fo "is_pick_word" "is_pick_word" (top 51) "loomwright.drafttext" 601 353
noncomputable def ZO:Ob:=λP=>tu #[]
noncomputable def Yp:Ob:=λP=>co "read_treading" "read_treading" 690 209 3 3 355 true 356 .none .none (.ref 357) 693 694
noncomputable def YY:Ob:=λP=>fo "read_treading" "read_treading" (top 52) "loomwright.drafttext" 601 358
noncomputable def Y0:Ob:=λP=>co "read_colours" "read_colours" 696 213 4 3 360 true 361 (.ref 362) (.ref 363) (.ref 364) 705 706
noncomputable def aq:Ob:=λP=>fo "read_colours" "read_colours" (top 53) "loomwright.drafttext" 601 365
noncomputable def Zj:Ob:=λP=>co "read_draft" "read_draft" 708 219 1 3 367 true 368 .none .none (.ref 369) 711 712
noncomputable def aQ:Ob:=λP=>fo "read_draft" "read_draft" (top 54) "loomwright.drafttext" 601 370
noncomputable def Zq:Ob:=λP=>co "_law_mixed" "_law_mixed" 716 234 2 3 372 true 373 (.ref 374) (.ref 375) (.ref 376) 721 722
noncomputable def aK:Ob:=λP=>fo "_law_mixed" "_law_mixed" (top 56) "law_loomwright_k06_rows_refused" 714 377
noncomputable def ao:Ob:=λP=>co "_law_kinds" "_law_kinds" 724 237 1 3 379 true 380 .none .none (.ref 381) 727 728
noncomputable def YU:Ob:=λP=>fo "_law_kinds" "_law_kinds" (top 57) "law_loomwright_k06_rows_refused" 714 382
noncomputable def Zk:Ob:=λP=>co "_law_same" "_law_same" 730 244 2 3 384 true 385 .none .none (.ref 386) 733 734
noncomputable def Zf:Ob:=λP=>fo "_law_same" "_law_same" (top 58) "law_loomwright_k06_rows_refused" 714 387
noncomputable def Zr:Ob:=λP=>co "_law_cells" "_law_cells" 736 250 2 3 389 true 390 .none .none (.ref 391) 739 740
noncomputable def Y5:Ob:=λP=>fo "_law_cells" "_law_cells" (top 59) "law_loomwright_k06_rows_refused" 714 392
noncomputable def Z5:Ob:=λP=>co "_law_numbers" "_law_numbers" 742 253 2 3 394 true 395 .none .none (.ref 396) 745 746
noncomputable def aO:Ob:=λP=>fo "_law_numbers" "_law_numbers" (top 60) "law_loomwright_k06_rows_refused" 714 397
noncomputable def YO:Ob:=λP=>co "_law_draft" "_law_draft" 748 255 2 3 399 true 400 .none .none (.ref 401) 751 752
noncomputable def Yv:Ob:=λP=>fo "_law_draft" "_law_draft" (top 61) "law_loomwright_k06_rows_refused" 714 402
noncomputable def X9:Ob:=λP=>co "_law_rows" "_law_rows" 768 281 2 3 416 true 417 .none .none (.ref 418) 771 772
noncomputable def ZC:Ob:=λP=>fo "_law_rows" "_law_rows" (top 64) "law_loomwright_k06_rows_refused" 714 419
noncomputable def ap:Ob:=λP=>co "_law_pick" "_law_pick" 774 290 1 3 421 true 422 .none .none (.ref 423) 777 778
noncomputable def aL:Ob:=λP=>fo "_law_pick" "_law_pick" (top 65) "law_loomwright_k06_rows_refused" 714 424
noncomputable def Zs:Ob:=λP=>co "_law_again" "_law_again" 780 292 4 3 426 true 427 (.ref 428) (.ref 429) (.ref 430) 788 789
noncomputable def Zi:Ob:=λP=>fo "_law_again" "_law_again" (top 66) "law_loomwright_k06_rows_refused" 714 431
noncomputable def YS:Ob:=λP=>co "_law_grouped" "_law_grouped" 791 295 2 3 433 true 434 (.ref 435) (.ref 436) (.ref 437) 801 802
noncomputable def Z1:Ob:=λP=>fo "_law_grouped" "_law_grouped" (top 67) "law_loomwright_k06_rows_refused" 714 438
noncomputable def Z8:Ob:=λP=>co "_law_times" "_law_times" 804 314 1 3 440 true 441 .none .none (.ref 442) 807 808
noncomputable def Zx:Ob:=λP=>fo "_law_times" "_law_times" (top 68) "law_loomwright_k06_rows_refused" 714 443
noncomputable def Yx:Ob:=λP=>co "_law_level" "_law_level" 810 321 4 3 445 true 446 (.ref 447) (.ref 448) (.ref 449) 820 821
noncomputable def Za:Ob:=λP=>fo "_law_level" "_law_level" (top 69) "law_loomwright_k06_rows_refused" 714 450
noncomputable def aB:Ob:=λP=>co "_law_group" "_law_group" 823 341 4 3 452 true 453 (.ref 454) (.ref 455) (.ref 456) 831 832
noncomputable def Yz:Ob:=λP=>fo "_law_group" "_law_group" (top 70) "law_loomwright_k06_rows_refused" 714 457
noncomputable def ZM:Ob:=λP=>co "_law_due" "_law_due" 834 354 3 3 459 true 460 (.ref 461) (.ref 462) (.ref 463) 842 843
noncomputable def ah:Ob:=λP=>fo "_law_due" "_law_due" (top 71) "law_loomwright_k06_rows_refused" 714 464
noncomputable def Yj:Ob:=λP=>co "_law_bent" "_law_bent" 845 362 2 3 466 true 467 (.ref 468) (.ref 469) (.ref 470) 857 858
noncomputable def Zw:Ob:=λP=>fo "_law_bent" "_law_bent" (top 72) "law_loomwright_k06_rows_refused" 714 471
noncomputable def Ze:Ob:=λP=>co "_law_number" "_law_number" 860 383 3 3 473 true 474 .none .none (.ref 475) 863 864
noncomputable def YB:Ob:=λP=>fo "_law_number" "_law_number" (top 73) "law_loomwright_k06_rows_refused" 714 476
noncomputable def aR:Ob:=λP=>co "_law_rising" "_law_rising" 866 389 2 3 478 true 479 (.ref 480) (.ref 481) (.ref 482) 874 875
noncomputable def YQ:Ob:=λP=>fo "_law_rising" "_law_rising" (top 74) "law_loomwright_k06_rows_refused" 714 483
noncomputable def YG:Ob:=λP=>co "_law_picks" "_law_picks" 877 396 1 3 485 true 486 .none .none (.ref 487) 880 881
noncomputable def Zt:Ob:=λP=>fo "_law_picks" "_law_picks" (top 75) "law_loomwright_k06_rows_refused" 714 488
noncomputable def YH:Ob:=λP=>co "_law_named" "_law_named" 883 401 2 3 490 true 491 (.ref 492) (.ref 493) (.ref 494) 890 891
noncomputable def Yn:Ob:=λP=>fo "_law_named" "_law_named" (top 76) "law_loomwright_k06_rows_refused" 714 495
noncomputable def ZR:Ob:=λP=>co "_law_counted" "_law_counted" 893 412 2 3 497 true 498 (.ref 499) (.ref 500) (.ref 501) 899 900
noncomputable def Yc:Ob:=λP=>fo "_law_counted" "_law_counted" (top 77) "law_loomwright_k06_rows_refused" 714 502
noncomputable def Ys:Ob:=λP=>co "_law_itemed" "_law_itemed" 902 422 5 3 504 true 505 (.ref 506) (.ref 507) (.ref 508) 912 913
noncomputable def Y4:Ob:=λP=>fo "_law_itemed" "_law_itemed" (top 78) "law_loomwright_k06_rows_refused" 714 509
noncomputable def YR:Ob:=λP=>co "_law_tied" "_law_tied" 915 433 2 3 511 true 512 .none .none (.ref 513) 918 919
noncomputable def aJ:Ob:=λP=>fo "_law_tied" "_law_tied" (top 79) "law_loomwright_k06_rows_refused" 714 514
noncomputable def Zb:Ob:=λP=>co "_law_read" "_law_read" 921 446 1 3 516 true 517 .none .none (.ref 518) 924 925
noncomputable def YZ:Ob:=λP=>fo "_law_read" "_law_read" (top 80) "law_loomwright_k06_rows_refused" 714 519
noncomputable def Yo:Ob:=λP=>co "_law_told" "_law_told" 927 476 1 3 521 true 522 (.ref 523) (.ref 524) (.ref 525) 934 935
noncomputable def Z4:Ob:=λP=>fo "_law_told" "_law_told" (top 81) "law_loomwright_k06_rows_refused" 714 526
noncomputable def aI:Ob:=λP=>co "law" "law" 937 488 1 3 528 true 529 .none .none (.ref 530) 940 941
noncomputable def aa:Ob:=λP=>fo "law" "law" (top 82) "law_loomwright_k06_rows_refused" 714 531
noncomputable def mF(P:Az9):Frag:=(nat_lit 2,boot_o_2 P)::(nat_lit 3,o3 P)::(nat_lit 15,o15 P)::(nat_lit 22,o22 P)::(nat_lit 23,o23 P)::(nat_lit 24,o24 P)::(nat_lit 25,o25 P)::(nat_lit 28,o28 P)::(nat_lit 40,o40 P)::(nat_lit 41,o41 P)::(nat_lit 42,o42 P)::(nat_lit 43,o43 P)::(nat_lit 44,o44 P)::(nat_lit 47,o47 P)::(nat_lit 59,o59 P)::(nat_lit 60,o60 P)::(nat_lit 61,o61 P)::(nat_lit 62,o62 P)::(nat_lit 63,o63 P)::(nat_lit 66,o66 P)::(nat_lit 78,o78 P)::(nat_lit 79,o79 P)::(nat_lit 80,o80 P)::(nat_lit 81,o81 P)::(nat_lit 82,o82 P)::(nat_lit 85,o85 P)::(nat_lit 97,o97 P)::(nat_lit 98,o98 P)::(nat_lit 99,o99 P)::(nat_lit 100,Y7 P)::(nat_lit 101,Ym P)::(nat_lit 104,Zp P)::(nat_lit 116,ZU P)::(nat_lit 117,Y6 P)::(nat_lit 118,ag P)::(nat_lit 119,ay P)::(nat_lit 120,YD P)::(nat_lit 123,YX P)::(nat_lit 130,ZA P)::(nat_lit 131,ZF P)::(nat_lit 132,ZY P)::(nat_lit 135,aA P)::(nat_lit 142,ZQ P)::(nat_lit 143,X8 P)::(nat_lit 144,YA P)::(nat_lit 147,Yq P)::(nat_lit 154,YF P)::(nat_lit 155,au P)::(nat_lit 156,Ye P)::(nat_lit 164,Yt P)::(nat_lit 165,Zh P)::(nat_lit 171,Zc P)::(nat_lit 172,X4 P)::(nat_lit 178,ak P)::(nat_lit 179,ae P)::(nat_lit 183,Y9 P)::(nat_lit 184,Z6 P)::(nat_lit 188,Zm P)::(nat_lit 189,aN P)::(nat_lit 195,az P)::(nat_lit 196,Zo P)::(nat_lit 200,ZP P)::(nat_lit 202,Z7 P)::(nat_lit 203,Zv P)::(nat_lit 209,X6 P)::(nat_lit 210,YN P)::(nat_lit 216,ZD P)::(nat_lit 217,YJ P)::(nat_lit 221,Zg P)::(nat_lit 222,Yg P)::(nat_lit 226,aE P)::(nat_lit 227,Yr P)::(nat_lit 231,X5 P)::(nat_lit 232,Yh P)::(nat_lit 243,Y8 P)::(nat_lit 244,aM P)::(nat_lit 248,ZH P)::(nat_lit 249,aP P)::(nat_lit 255,aD P)::(nat_lit 256,Yl P)::(nat_lit 262,X7 P)::(nat_lit 263,Y2 P)::(nat_lit 264,ar P)::(nat_lit 265,Yi P)::(nat_lit 266,Z3 P)::(nat_lit 267,YL P)::(nat_lit 268,ZW P)::(nat_lit 276,ZK P)::(nat_lit 277,ZS P)::(nat_lit 283,Yw P)::(nat_lit 284,YM P)::(nat_lit 290,Yd P)::(nat_lit 291,Zz P)::(nat_lit 297,aw P)::(nat_lit 298,Zu P)::(nat_lit 304,Z0 P)::(nat_lit 305,ZT P)::(nat_lit 311,Zy P)::(nat_lit 312,Yu P)::(nat_lit 318,ZZ P)::(nat_lit 319,Yb P)::(nat_lit 325,Y3 P)::(nat_lit 326,Yk P)::(nat_lit 332,YW P)::(nat_lit 333,YK P)::(nat_lit 334,Z2 P)::(nat_lit 336,ZE P)::(nat_lit 337,YC P)::(nat_lit 339,Yy P)::(nat_lit 340,aj P)::(nat_lit 346,ZJ P)::(nat_lit 347,ZX P)::(nat_lit 353,aF P)::(nat_lit 354,aG P)::(nat_lit 355,ZO P)::(nat_lit 358,Yp P)::(nat_lit 359,YY P)::(nat_lit 365,Y0 P)::(nat_lit 366,aq P)::(nat_lit 370,Zj P)::(nat_lit 371,aQ P)::(nat_lit 377,Zq P)::(nat_lit 378,aK P)::(nat_lit 382,ao P)::(nat_lit 383,YU P)::(nat_lit 387,Zk P)::(nat_lit 388,Zf P)::(nat_lit 392,Zr P)::(nat_lit 393,Y5 P)::(nat_lit 397,Z5 P)::(nat_lit 398,aO P)::(nat_lit 402,YO P)::(nat_lit 403,Yv P)::(nat_lit 419,X9 P)::(nat_lit 420,ZC P)::(nat_lit 424,ap P)::(nat_lit 425,aL P)::(nat_lit 431,Zs P)::(nat_lit 432,Zi P)::(nat_lit 438,YS P)::(nat_lit 439,Z1 P)::(nat_lit 443,Z8 P)::(nat_lit 444,Zx P)::(nat_lit 450,Yx P)::(nat_lit 451,Za P)::(nat_lit 457,aB P)::(nat_lit 458,Yz P)::(nat_lit 464,ZM P)::(nat_lit 465,ah P)::(nat_lit 471,Yj P)::(nat_lit 472,Zw P)::(nat_lit 476,Ze P)::(nat_lit 477,YB P)::(nat_lit 483,aR P)::(nat_lit 484,YQ P)::(nat_lit 488,YG P)::(nat_lit 489,Zt P)::(nat_lit 495,YH P)::(nat_lit 496,Yn P)::(nat_lit 502,ZR P)::(nat_lit 503,Yc P)::(nat_lit 509,Ys P)::(nat_lit 510,Y4 P)::(nat_lit 514,YR P)::(nat_lit 515,aJ P)::(nat_lit 519,Zb P)::(nat_lit 520,YZ P)::(nat_lit 526,Yo P)::(nat_lit 527,Z4 P)::(nat_lit 531,aI P)::(nat_lit 532,aa P)::[]
noncomputable def addrs:List Addr:=[2,3,15,22,23,24,25,28,40,41,42,43,44,47,59,60,61,62,63,66,78,79,80,81,82,85,97,98,99,100,101,104,116,117,118,119,120,123,130,131,132,135,142,143,144,147,154,155,156,164,165,171,172,178,179,183,184,188,189,195,196,200,202,203,209,210,216,217,221,222,226,227,231,232,243,244,248,249,255,256,262,263,264,265,266,267,268,276,277,283,284,290,291,297,298,304,305,311,312,318,319,325,326,332,333,334,336,337,339,340,346,347,353,354,355,358,359,365,366,370,371,377,378,382,383,387,388,392,393,397,398,402,403,419,420,424,425,431,432,438,439,443,444,450,451,457,458,464,465,471,472,476,477,483,484,488,489,495,496,502,503,509,510,514,515,519,520,526,527,531,532]
noncomputable def view:Program:={ pWw with main:={ pWw.main with body:=[top 0,top 1,top 2,top 3,top 5,top 6,top 7,top 8,top 9,top 10,top 11,top 12,top 13,top 15,top 16,top 17,top 18,top 19,top 20,top 21,top 22,top 23,top 25,top 26,top 27,top 28,top 29,top 30,top 31,top 33,top 34,top 35,top 36,top 37,top 38,top 39,top 40,top 42,top 43,top 44,top 45,top 46,top 47,top 48,top 49,top 50,top 51,top 52,top 53,top 54,top 56,top 57,top 58,top 59,top 60,top 61,top 62,top 63,top 64,top 65,top 66,top 67,top 68,top 69,top 70,top 71,top 72,top 73,top 74,top 75,top 76,top 77,top 78,top 79,top 80,top 81,top 82] } }
noncomputable abbrev Xt:aT->Bool:=λs=>xlAt view [] s&&recOk (RowW.records rWw.row.toRowW) s
noncomputable def tabs:List Addr:=[356,335]
theorem gj:∀P:Az9,addrs=(mF P).map (·.1):=λ_=>by kernel_rfl
noncomputable abbrev hook:Hook:=Au2 mF addrs gj tabs
noncomputable abbrev fuel:Nat:=8436
noncomputable def _root_.PySem.W.Fast.tw3747026799197736414:Program:=pWw
theorem _root_.PySem.W.Fast.te3747026799197736414:pWw=PySem.W.Fast.tw3747026799197736414:=rfl
theorem Xn:(λ_=>true) (HX.topT Ax9)=true:=by k_qdec
theorem wR:rWw.wellSaid=true:=by k_qdec
theorem aH(w:bg)(os:OsState):(HX.topT Ax9 pWw w 11 (aS (.ref 6)) fuel ⟨HX.jX w.params,11,{},Aw1 [],An8,boot_toks,os⟩ (topStub pWw)).map (λs=>((staticsOk (As7 pWw.main.body) (Am2 w.params) s.abs.heap&&namesBound pWw s.abs.heap&&gensDone s.abs&&laidKept (Am2 w.params) s.abs.heap),(addrs.map s.abs.heap.get?,tabs.map s.abs.heap.get?)))=aS (true,((mF w.params).map λp=>aS p.2,tabs.map λ_=>aS (tabObj #[]))):=by
 have _tw:=Xn;rw[PySem.W.Fast.te5923862056798008813,PySem.W.Fast.te14364793385576792824,PySem.W.Fast.te9621378704136392807];kernel_rfl
theorem Zn(w:bg)(os:OsState):(HX.topT Ax9 pWw w 11 (aS (.ref 6)) fuel ⟨HX.jX w.params,11,{},Aw1 [],An8,boot_toks,os⟩ (topStub pWw)).map (λs=>(λo=>(o.1,o.2.1,o.2.2.1,o.2.2.2.1)) (openSeen view [] (As7 pWw.main.body) Xt true s.abs))=aS (expectedOf view,bltViewBooted,true,true):=by
 unfold Xt;rw[PySem.W.Fast.te5923862056798008813,PySem.W.Fast.te4187177175401517315,PySem.W.Fast.te2368527892694137696,PySem.W.Fast.te14364793385576792824,PySem.W.Fast.te9621378704136392807];kernel_rfl
theorem YV(w:bg)(os:OsState):(HX.topT Ax9 pWw w 11 (aS (.ref 6)) fuel ⟨HX.jX w.params,11,{},Aw1 [],An8,boot_toks,os⟩ (topStub pWw)).map (λs=>(λo=>(o.2.2.2.2.1,o.2.2.2.2.2.1,o.2.2.2.2.2.2.1,o.2.2.2.2.2.2.2.1,o.2.2.2.2.2.2.2.2)) (openSeen view [] (As7 pWw.main.body) Xt true s.abs))=aS (pinGoodD (drecsOf view),plainGoodE view (looseW view []),plainGoodD view [],wideGood view,clsGoodW view []):=by
 unfold Xt;rw[PySem.W.Fast.te5923862056798008813,PySem.W.Fast.te4187177175401517315,PySem.W.Fast.te2368527892694137696,PySem.W.Fast.te14364793385576792824,PySem.W.Fast.te9621378704136392807];kernel_rfl
theorem left:LeftO pWw view [] Xt hook.obs hook.val fuel:=HX.qw (by kernel_rfl) (by decide) (λs=>by kernel_rfl) HX.hb λw os=>by
 obtain⟨s,r,l⟩:=Ae5.mp (aH w os);obtain⟨s2,r2,l2⟩:=Ae5.mp (Zn w os);cases r.symm.trans r2;obtain⟨s3,r3,l3⟩:=Ae5.mp (YV w os);cases r.symm.trans r3;exact⟨s.abs,HX.pe r,HX.three l (HX.nine l2 l3)⟩
end K06
namespace L2
open PySem PySem.Spec PyProof.Rows
noncomputable abbrev Key:=Sum Int Str
noncomputable def Kq:Key->Value->Bool
 | .inl k,v=>Value.isInt k v
 | .inr x,v=>Value.isStrOf x v
noncomputable def ZL(w:bg):Key->Int
 | .inl k=>hashInt k
 | .inr x=>hashStr w x
theorem Bh:∀{k:Key} {v:Value},Kq k v=true->(∃i t,k=AF6 i/\v=Av8 i t)\/(∃x t,k=AF7 x/\v=Ay3 x t)
 | .inl i,v,h=>by
  obtain⟨t,e⟩:=Value.isInt_shape (k:=i) (v:=v) h;exact .inl ⟨i,t,rfl,e⟩
 | .inr x,v,h=>by
  obtain⟨t,e⟩:=Value.isStrOf_shape (x:=x) (v:=v) h;exact .inr ⟨x,t,rfl,e⟩
theorem P5(i:Int)(t:Tok):Kq (.inl i) (.int i t)=true:=by simp[Kq,Value.isInt]
theorem Pn(x:Str)(t:Tok):Kq (.inr x) (.str x t)=true:=by simp[Kq,Value.isStrOf]
theorem VE(a b:Int):decide ((AF6 a:Key)=AF6 b)=(a == b):=by
 by_cases e:a=b
 .subst e;simp
 .have h:¬ (AF6 a:Key)=AF6 b:=λq=>e (Sum.inl.inj q);rw[lI h];exact(beq_eq_false_iff_ne.mpr e).symm
theorem VN(a b:Str):decide ((AF7 a:Key)=AF7 b)=decide (a=b):=by
 by_cases e:a=b
 .subst e;simp
 .have h:¬ (AF7 a:Key)=AF7 b:=λq=>e (Sum.inr.inj q);rw[lI h,lI e]
theorem Wi(a:Int)(b:Str):decide ((AF6 a:Key)=AF7 b)=false:=lI (λq=>nomatch q)
theorem Wg(a:Str)(b:Int):decide ((AF7 a:Key)=AF6 b)=false:=lI (λq=>nomatch q)
noncomputable def Bv(prog:Program)(w:bg):PySem.KeyKind prog w Key where
  is:=Kq
  hash:=ZL w
  inj:=λv a b ha hb=>by
    rcases Bh ha with ⟨i,t,rfl,rfl⟩ | ⟨x,t,rfl,rfl⟩
    · rcases Bh hb with ⟨j,u,rfl,e⟩ | ⟨y,u,rfl,e⟩
      · injection e with e1 _;rw[e1]
      · exact nomatch e
    · rcases Bh hb with ⟨j,u,rfl,e⟩ | ⟨y,u,rfl,e⟩
      · exact nomatch e
      · injection e with e1 _;rw[e1]
  byValue:=λk v h=>by
    rcases Bh h with ⟨i,t,rfl,rfl⟩ | ⟨x,t,rfl,rfl⟩ <;> rfl
  pyHash:=λhv h=>by
    rcases Bh hv with ⟨i,t,rfl,rfl⟩ | ⟨x,t,rfl,rfl⟩
    · exact wpAny_pyHash_int h
    · exact wpAny_pyHash_str h
  eqBool:=λhu hv h=>by
    rcases Bh hu with ⟨i,t,rfl,rfl⟩ | ⟨x,t,rfl,rfl⟩
    · rcases Bh hv with ⟨j,u,rfl,rfl⟩ | ⟨y,u,rfl,rfl⟩
      · rw[VE] at h;exact wpAny_eqBool_int h
      · rw[Wi] at h;exact AB1 i t y u _ _ _ _ h
    · rcases Bh hv with ⟨j,u,rfl,rfl⟩ | ⟨y,u,rfl,rfl⟩
      · rw[Wg] at h;exact AB2 x t j u _ _ _ _ h
      · rw[VN] at h;exact wpAny_eqBool_str h
  «strs» := λk x t v h=>by
    rcases Bh h with ⟨i,u,rfl,e⟩ | ⟨y,u,rfl,e⟩
    · exact nomatch e
    · injection e with e1 _;subst e1;cases v <;> rfl
theorem Nf(prog:Program)(w:bg)(i:Int)(t:Tok):(Bv prog w).is (.inl i) (.int i t)=true:=P5 i t
theorem MZ(prog:Program)(w:bg)(x:Str)(t:Tok):(Bv prog w).is (.inr x) (.str x t)=true:=Pn x t
inductive V where
 | bC | bl (b:Bool) | int (i:Int) | str (x:Str) | pq (b:Array UInt8) | sR (b:UInt64) | ref (a:Addr) | ty (n:String)
 deriving DecidableEq
noncomputable def RelV:V->Value->Prop
 | .bC,u=>u=Aj8
 | .bl b,u=>u=Ar6 b
 | .int i,u=>∃t,u=Av8 i t
 | .str x,u=>∃t,u=Ay3 x t
 | .pq b,u=>∃t,u=Value.bytes b t
 | .sR b,u=>∃t,u=AG6 b t
 | .ref a,u=>u=aY a
 | .ty n,u=>u=Ap8 n
noncomputable abbrev Vals:List V->List Value->Prop:=Paired RelV
theorem Vals.length{xs:List V}{us:List Value}(r:Vals xs us):xs.length=us.length:=AI3 r
theorem Vals.get:∀{xs:List V} {us:List Value} {i:Nat} {x:V},Vals xs us->xs[i]?=aS x->∃u,us[i]?=aS u/\RelV x u
 | _,_,_,_, .nil,e=>by simp at e
 | _,_,0,_, .cons r _,e=>by simp at e;subst e;exact⟨_,rfl,r⟩
 | _,_,i+1,x, .cons _ t,e=>by
  obtain⟨u,h1,h2⟩:=Vals.get (i:=i) (x:=x) t (by simpa using e);exact⟨u,by simpa using h1,h2⟩
theorem Vals.set{x:V}{u:Value}(r:RelV x u):∀{xs:List V} {us:List Value} (i:Nat),Vals xs us->Vals (xs.set i x) (us.set i u)
 | _,_,_, .nil=> .nil
 | _,_,0, .cons _ t=> .cons r t
 | _,_,i+1, .cons q t=> .cons q (Vals.set r i t)
theorem Vals.append:∀{xs ys:List V} {us ws:List Value},Vals xs us->Vals ys ws->Vals (xs++ys) (us++ws)
 | _,_,_,_, .nil,s=>s
 | _,_,_,_, .cons r t,s=> .cons r (Vals.append t s)
theorem Vals.take:∀{xs:List V} {us:List Value} (n:Nat),Vals xs us->Vals (xs.take n) (us.take n)
 | _,_,0,_=> .nil
 | _,_,_+1, .nil=> .nil
 | _,_,n+1, .cons r t=> .cons r (Vals.take n t)
theorem Vals.drop:∀{xs:List V} {us:List Value} (n:Nat),Vals xs us->Vals (xs.drop n) (us.drop n)
 | _,_,0,r=>r
 | _,_,_+1, .nil=> .nil
 | _,_,n+1, .cons _ t=>Vals.drop n t
noncomputable def fq:Option V->Option Value->Prop
 | some v,aS u=>RelV v u
 | none,aV=>True
 | _,_=>False
noncomputable def KV{κ:Type}:List (κ×V)->List (κ×Value)->Prop:=Paired λ(p:κ×V) (q:κ×Value)=>p.1=q.1/\RelV p.2 q.2
noncomputable def kV:Key->V
 | .inl i=> .int i
 | .inr x=> .str x
inductive HO where
 | lst (xs:List V)
 | tup (xs:List V)
 | dK (bN:List (Key×V)) | dT (bN:List (List Key×V))
 | set (S:Int->Bool) (n:Nat)
 | ins (C dx:Addr) (fs:List (Str×V))
 | own (x:Addr)
 | xd (fs:List (Str×V))
 | met (f x:Addr)
 | yU (lo hi:Int)
 | mG (o:Obj) (u:HO)
 | ko (ps:Array Value)
 | ext (φ:Heap->Prop)
noncomputable abbrev Hp:=Addr->Option HO
noncomputable def upd(H:Hp)(a:Addr)(o:HO):Hp:=λb=>if b=a then aS o else H b
theorem upd_same:upd H a o a=aS o:=by unfold upd;rw[bS rfl]
theorem An(h:b≠a):upd H a o b=H b:=by unfold upd;rw[bG h]
theorem GQ{H:Hp}(h:H a=aS o)(h':H b=aS u)(d:o≠u):a≠b:=by
 intro e;subst e;rw[h] at h';exact d (Ae1.inj h')
theorem Ba{H:Hp}(h:H a=aS o)(h':H b=aV):a≠b:=by
 intro e;subst e;rw[h] at h';cases h'
section
variable (P:Program)(w:bg)
noncomputable def bK(H:Hp)(h:Heap)(a:Addr):HO->Prop
 | .lst xs=>xs.length<=sizeLine/\∃(its:List Value) (n:Nat),Vals xs its/\h.get? a=aS { cls:= .type "list",data:= .seq its.toArray n }
 | .tup xs=>xs.length<=sizeLine/\∃its:List Value,Vals xs its/\IsTup h a its.toArray
 | .dK bN=>bN.length<=sizeLine/\(a == At3)=false/\∃vs,KV bN vs/\h.DictOf (Bv P w) a vs
 | .dT bN=>bN.length<=sizeLine/\(a == At3)=false/\∃xs:List (List Key×Addr×Value),
  Paired (λ(p:List Key×V) (q:List Key×Addr×Value)=>p.1=q.1/\H q.2.1=aS (.tup (p.1.map kV))/\RelV p.2 q.2.2) bN xs/\
  ∃o es ep,h.get? a=aS o/\o.ExactDict/\o.data= .dict es ep/\es.toList=xs.map (entryOfKey (tupleKind (Bv P w)))/\(xs.map (·.1)).Nodup
 | .set S n=>h.SetOf (intKind P w) a S n
 | .ins C dx fs=>H dx=aS (.own a)/\fs.length<=1000/\dx≠a/\h.get? a=aS (An6 C dx)/\
  ∃mA,h.Ns1 dx mA/\(∀f,fq (fs.lookup f) (mA f))/\Av1 mA (fs.map (·.1))
 | .own _=>∃o,h.get? a=aS o
 | .xd fs=>∃mA,h.Ns1 a mA/\∀f,fq (fs.lookup f) (mA f)
 | .yU lo hi=>∃t u v,h.get? a=aS { cls:= .type "range",data:= .fields #[.int lo t, .int hi u, .int 1 v] }
 | .mG o u=>h.get? a=aS o/\bK H h a u
 | .ko ps=>h.get? a=aS { cls:= .none,data:= .fields ps }
 | .met f x=>h.get? a=aS (AD6 (.ref f) (.ref x))
 | .ext φ=>φ h/\(∃o,h.get? a=aS o)/\∀h1 h2:Heap,φ h1->(∀o,h1.get? a=aS o->h2.get? a=aS o)->φ h2
noncomputable def fM(H:Hp)(h:Heap):Prop:=∀a o,H a=aS o->bK P w H h a o
end
section
variable {P:Program}{w:bg}{H H':Hp}{h h':Heap}{a:Addr}{o:HO}
theorem bK.lt(x:bK P w H h a o):a<h.objs.size:=by
 cases o with
 | lst xs=>obtain⟨_,_,_,_,e⟩:=x;exact Ab1 e
 | tup xs=>obtain⟨_,_,_,p⟩:=x;exact p.lt
 | dK bN=>obtain⟨_,_,_,_,o,_,_,e,_⟩:=x;exact Ab1 e
 | dT bN=>obtain⟨_,_,_,_,o,_,_,e,_⟩:=x;exact Ab1 e
 | set S n=>obtain⟨o,_,_,_,e,_⟩:=x;exact Ab1 e
 | ins C dx fs=>obtain⟨_,_,_,e,_⟩:=x;exact Ab1 e
 | own y=>obtain⟨_,e⟩:=x;exact Ab1 e
 | xd fs=>obtain⟨_,⟨_,_,_,e,_⟩,_⟩:=x;exact Ab1 e
 | yU lo hi=>obtain⟨_,_,_,e⟩:=x;exact Ab1 e
 | mG ob u=>obtain⟨e,_⟩:=x;exact Ab1 e
 | ko ps=>exact Ab1 (show h.get? a=aS _ from x)
 | met f y=>exact Ab1 (show h.get? a=aS _ from x)
 | ext φ=>obtain⟨_,⟨_,e⟩,_⟩:=x;exact Ab1 e
theorem Paired.tZ{α β:Type}{F G:α->β->Prop}:∀{l₁:List α} {l₂:List β},Paired F l₁ l₂->(∀a b,F a b->G a b)->Paired G l₁ l₂
 | _,_, .nil,_=> .nil
 | _,_, .cons r t,f=> .cons (f _ _ r) (Paired.tZ t f)
theorem bK.kc(x:bK P w H h a o)(k:∀b u,(b=a\/H b=aS (.own a))->h.get? b=aS u->h'.get? b=aS u)
  (ho:∀b,H b=aS (.own a)->H' b=aS (.own a)) (ht:∀b xs,H b=aS (.tup xs)->H' b=aS (.tup xs)):bK P w H' h' a o:=by
 induction o with
 | lst xs=>obtain⟨z,its,n,r,e⟩:=x;exact⟨z,its,n,r,k _ _ (.inl rfl) e⟩
 | tup xs=>obtain⟨z,its,r,ob,e,c⟩:=x;exact⟨z,its,r,ob,k _ _ (.inl rfl) e,c⟩
 | dK bN=>obtain⟨z,y,vs,r,ob,es,ep,e,c⟩:=x;exact⟨z,y,vs,r,ob,es,ep,k _ _ (.inl rfl) e,c⟩
 | dT bN=>
  obtain⟨z,y,xs,r,ob,es,ep,e,c⟩:=x;exact⟨z,y,xs,Paired.tZ r λp q z=>⟨z.1,ht _ _ z.2.1,z.2.2⟩,ob,es,ep,k _ _ (.inl rfl) e,c⟩
 | set S n=>obtain⟨ob,es,ep,t,e,c⟩:=x;exact⟨ob,es,ep,t,k _ _ (.inl rfl) e,c⟩
 | ins C dx fs=>
  obtain⟨d,z,ne,e,mA,⟨od,es,ep,e2,c⟩,r⟩:=x;exact⟨ho _ d,z,ne,k _ _ (.inl rfl) e,mA,⟨od,es,ep,k _ _ (.inr d) e2,c⟩,r⟩
 | own y=>obtain⟨ob,e⟩:=x;exact⟨ob,k _ _ (.inl rfl) e⟩
 | xd fs=>obtain⟨mA,⟨od,es,ep,e,c⟩,r⟩:=x;exact⟨mA,⟨od,es,ep,k _ _ (.inl rfl) e,c⟩,r⟩
 | yU lo hi=>obtain⟨t,u,v,e⟩:=x;exact⟨t,u,v,k _ _ (.inl rfl) e⟩
 | mG ob u ih=>obtain⟨e,q⟩:=x;exact⟨k _ _ (.inl rfl) e,ih q⟩
 | ko ps=>
  have e:h.get? a=aS { cls:= .none,data:= .fields ps }:=x;show h'.get? a=aS { cls:= .none,data:= .fields ps };exact k a _ (.inl rfl) e
 | met f y=>
  have e:h.get? a=aS (AD6 (.ref f) (.ref y)):=x;show h'.get? a=aS (AD6 (.ref f) (.ref y));exact k a _ (.inl rfl) e
 | ext φ=>obtain⟨p,⟨o,e⟩,st⟩:=x;exact⟨st _ _ p λo q=>k _ _ (.inl rfl) q,⟨o,k _ _ (.inl rfl) e⟩,st⟩
theorem fM.lt(x:fM P w H h)(e:H a=aS o):a<h.objs.size:=(x a o e).lt
theorem fM.fresh(x:fM P w H h)(e:h.objs.size<=a):H a=none:=by
 cases q:H a with
 | none=>rfl
 | some u=>exact bV (Ac6 (x.lt q) e) (Ag7 _)
theorem fM.kept(x:fM P w H h)(k:∀b u,h.get? b=aS u->h'.get? b=aS u):fM P w H h':=λa o e=>
 (x a o e).kc (λb u _ q=>k b u q) (λ_ q=>q) λ_ _ q=>q
theorem fM.laid(x:fM P w H h)(k:∀b u,h.get? b=aS u->h'.get? b=aS u)(hp:h.objs.size<=a)(new:bK P w (upd H a o) h' a o):fM P w (upd H a o) h':=λb u e=>by
 have hn:=x.fresh hp;by_cases hb:b=a
 .subst hb;rw[upd_same] at e;cases e;exact new
 .rw[An hb] at e;exact(x b u e).kc (λc v _ q=>k c v q) (λc q=>by rw[An (Ba q hn)];exact q) λc xs q=>by rw[An (Ba q hn)];exact q
end
noncomputable def Rd(H:Hp)(a:Addr)(u:HO):Prop:=H a=aS u\/∃o,H a=aS (.mG o u)
theorem Rd.ok(r:Rd H a u)(x:fM P w H h):bK P w H h a u:=by
 rcases r with r | ⟨o,r⟩
 .exact x a u r
 .obtain⟨_,q⟩:=x a _ r;exact q
noncomputable def wU:Option HO->Prop
 | some (.lst _)=>True
 | some (.dK _)=>True
 | some (.dT _)=>True
 | some (.set _ _)=>True
 | some (.ins _ _ _)=>True
 | some (.ext _)=>True
 | _=>False
section
variable {P:Program}{w:bg}{H:Hp}{h h':Heap}{x e:Addr}{o':HO}
theorem fM.write(ok:fM P w H h)(mu:wU (H x))(he:e=x\/H e=aS (.own x))(k:∀b u,b≠e->h.get? b=aS u->h'.get? b=aS u)(vK:∃u,h'.get? e=aS u)
  (new:bK P w (upd H x o') h' x o'):fM P w (upd H x o') h':=λb u q=>by
 have wV:∀c y,H c=aS (.own y)->c≠x:=λc y r z=>by subst z;rw[r] at mu;exact mu
 have aaa:∀c xs,H c=aS (.tup xs)->c≠x:=λc xs r z=>by subst z;rw[r] at mu;exact mu
 by_cases hb:b=x
 .subst hb;rw[upd_same] at q;cases q;exact new
 .rw[An hb] at q;by_cases nS:b=e
  .have q':H b=aS (.own x):=by
    rcases he with z | z
    .exact bV (nS.trans z) hb
    .rw[nS];exact z
   rw[q] at q';cases q';obtain⟨v,hv⟩:=vK;exact⟨v,by rw[nS];exact hv⟩
  .refine(ok b u q).kc (λc v hc r=>k c v ?_ r) (λc r=>by rw[An (wV c b r)];exact r) λc xs r=>by rw[An (aaa c xs r)];exact r
   rcases hc with rfl | hc
   .exact nS
   .rintro rfl;rcases he with z | z
    .exact wV c b hc z
    .rw[hc] at z;cases z;exact hb rfl
end
structure Un(fs ex:List Addr)(H H':Hp)(h h':Heap):Prop where
 keep:∀b o,h.get? b=aS o->H b=aV->b∉fs->b∉ex->h'.get? b=aS o
 slot:∀b o,h.get? b=aS o->H b=aV->b∈fs->b∉ex->∃sl,h'.get? b=aS { o with slots:=sl }
 free:∀b o,h.get? b=aS o->H b=aV->b∉ex->H' b=aV
 there:∀b o,h.get? b=aS o->b∉ex->∃o',h'.get? b=aS o'
 gY:∀b xs,H b=aS (.tup xs)->H' b=aS (.tup xs)
 gz:∀b o u,H b=aS (.mG o u)->H' b=aS (.mG o u)
 gB:∀b ps,H b=aS (.ko ps)->∃more,H' b=aS (.ko (ps++more))
section
variable {fs vL ex ex':List Addr}{H H1 H2:Hp}{h h1 h2 h':Heap}{a x e:Addr}{o:HO}
theorem Un.any(u:Un fs ex H H1 h h1)(q:h.get? b=aS ob)(n:H b=aV)(hx:b∉ex):∃sl,h1.get? b=aS { ob with slots:=sl }:=by
 by_cases hb:b∈fs
 .exact u.slot b ob q n hb hx
 .exact⟨ob.slots,u.keep b ob q n hb hx⟩
theorem Un.kept(k:∀b u,h.get? b=aS u->h'.get? b=aS u):Un fs ex H H h h':=
 ⟨λb ob q _ _ _=>k b ob q,λb ob q _ _ _=>⟨ob.slots,k b ob q⟩,λ_ _ _ n _=>n,λb ob q _=>⟨ob,k b ob q⟩,λ_ _ q=>q,λ_ _ _ q=>q,λ_ ps q=>⟨#[],by rw[q];simp⟩⟩
theorem Un.refl:Un fs ex H H h h:=Un.kept λ_ _ q=>q
theorem Un.laid(k:∀b u,h.get? b=aS u->h'.get? b=aS u)(hp:h.objs.size<=a)(hn:H a=aV):Un fs ex H (upd H a o) h h' where
 keep:=λb u q _ _ _=>k b u q
 slot:=λb u q _ _ _=>⟨u.slots,k b u q⟩
 free:=λb u q n _=>by rw[An (Ac8 (Ac6 (Ab1 q) hp))];exact n
 there:=λb u q _=>⟨u,k b u q⟩
 gY:=λb xs q=>by rw[An (Ba q hn)];exact q
 gz:=λb u xs q=>by rw[An (Ba q hn)];exact q
 gB:=λb ps q=>⟨#[],by rw[An (Ba q hn),q];simp⟩
theorem Un.write(mu:wU (H x))(he:e=x\/H e=aS (.own x))(k:∀b u,b≠e->h.get? b=aS u->h'.get? b=aS u)(vK:∃u,h'.get? e=aS u):Un fs ex H (upd H x o) h h':=by
 have hx:∀b,H b=aV->b≠x:=λb n z=>by subst z;rw[n] at mu;exact mu
 have hb:∀b,H b=aV->b≠e:=λb n z=>by
  subst z;rcases he with r | r
  .exact hx b n r
  .rw[n] at r;cases r
 have hm:∀b u,H b=aS u->¬ wU (aS u)->b≠x:=λb u q nm z=>by subst z;rw[q] at mu;exact nm mu
 refine⟨λb u q n _ _=>k b u (hb b n) q,λb u q n _ _=>⟨u.slots,k b u (hb b n) q⟩,λb u q n _=>by rw[An (hx b n)];exact n,λb u q _=>?_,
  λb xs q=>by rw[An (hm b _ q λz=>z)];exact q,λb u xs q=>by rw[An (hm b _ q λz=>z)];exact q,λb ps q=>⟨#[],by rw[An (hm b _ q λz=>z),q];simp⟩⟩
 by_cases nS:b=e
 .subst nS;exact vK
 .exact⟨u,k b u nS q⟩
end
noncomputable def vM(h:Heap)(H:Hp):List Addr:=(Ab7 h.objs.size).filter λa=>(H a).isSome
noncomputable def JQ(h:Heap)(H:Hp):Heap:=Ao2 h (vM h H)
theorem Pz(h:Heap)(H:Hp):(JQ h H).objs.size=h.objs.size:=PySem.W.hideAll_size _ _
theorem He{h:Heap}(e:h.get? b=aS o)(n:H b=aV):(JQ h H).get? b=aS o:=
 Ao7 _ e λhm=>by
  have q:(H b).isSome=true:=(Ah0.mp hm).2;rw[n] at q;simp at q
theorem OQ{h:Heap}(e:(JQ h H).get? b=aS o):h.get? b=aS o/\H b=none:=by
 have e':h.get? b=aS o:=Ay4 (vM h H) e;refine⟨e',?_⟩;cases q:H b with
 | none=>rfl
 | some x=>
  have hm:b∈vM h H:=Ah0.mpr ⟨Ae4.mpr (Ab1 e'),by simp[q]⟩;have z:(JQ h H).get? b=none:=Al8 (vM h H) hm;rw[z] at e;cases e
structure Mod(K:aU)(mg:Str->Option Value)(base:Heap):Prop where
 pA:K.In base
 glob:base.Ns Al3 mg
 blt:∃mb,base.Ns builtinsNs mb/\∀x:Str,x≠"__name__"->mb x=Am4 x
 nolimit:base.NoLimit
structure Cx where
 prog:Program
 w:bg
 K:aU
 mg:Str->Option Value
 base:Heap
 A:An2
 N:List Str
 s₀:aT
 H₀:Hp
 env:Env
 bw:List Env
 stack:List Env
 ex:List Addr
 fn:Str->Bool
 calm:Bool
 pn:List (Addr×Obj)
 xe:Value->aT->Prop
noncomputable def cA(l:List Env):List Addr:=l.filterMap (·.frame)
noncomputable abbrev Cx.fs(X:Cx):List Addr:=cA X.bw
noncomputable def yV(sc:Scope)(x:Str):Prop:=sc.names.lookup x=aS .local\/sc.names.lookup x=aS .cell\/sc.names.lookup x=aS .free
noncomputable def Loc(sc:Scope)(x:Str):Prop:=sc.names.lookup x=aS .local\/sc.names.lookup x=aS .cell
noncomputable def ZN(env:Env)(h:Heap)(m:Str->Option Value)(x:Str)(u:Value):Prop:=
 (env.kindOf x=aS .local/\m x=aS u)\/((env.kindOf x=aS .cell\/env.kindOf x=aS .free)/\∃c,env.cells.lookup x=aS c/\h.IsCell c (aS u))
structure Cx.Ok(X:Cx):Prop where
 mod:Mod X.K X.mg X.base
 kind:X.env.scope.kind= .function
 glob:X.env.globals=Al3
 blt:X.env.builtins=builtinsNs
 above:X.s₀.heap.objs.size<=X.env.locals
 inj:∀x y c,X.env.cells.lookup x=aS c->X.env.cells.lookup y=aS c->x=y
 has:∀x,(X.env.kindOf x=aS .cell\/X.env.kindOf x=aS .free)->∃c,X.env.cells.lookup x=aS c
 rB:∀x c,X.fn x=true->X.env.cells.lookup x=aS c->X.s₀.heap.objs.size<=c
 hd:X.calm=true->X.A.handled=aV
 frames:X.A.frames=aS X.stack
 sS:X.stack=X.bw\/(X.stack=X.env::X.bw/\X.env.frame=aS X.env.locals)
 sU:∀b∈X.ex,b≠X.env.locals/\∀x c,X.env.cells.lookup x=aS c->c≠b
 bs:∀b o,X.base.get? b=aS o->X.s₀.heap.get? b=aS o/\X.H₀ b=aV
 mH:X.base.objs.size<=X.s₀.heap.objs.size
 lJ:∀b o,X.base.get? b=aS o->b∉X.ex
 lq:∀b∈X.ex,b∉X.fs
 fO:X.s₀.heap.FunFrames X.base X.bw
 pB:∀b∈X.fs,X.H₀ b=aV
structure Inv(X:Cx)(bu:List (Addr×Obj))(σ:List (Option V))(H:Hp)(s:aT):Prop where
 ok:X.Ok
 os:s.os=X.s₀.os
 bare:Av9 s.gens
 base:Un X.fs X.ex X.H₀ H X.s₀.heap s.heap
 loc:∃m,s.heap.Ns X.env.locals m/\∀(i:Nat) (x:Str) (v:V),X.N[i]?=aS x->σ[i]?=aS (aS v)->yV X.env.scope x->∃u,RelV v u/\ZN X.env s.heap m x u
 cell:∀x c,X.env.cells.lookup x=aS c->∃v,s.heap.IsCell c v
 free:H X.env.locals=aV
 dH:∀x c,X.env.cells.lookup x=aS c->H c=aV
 pin:∀p∈X.pn++bu,s.heap.get? p.1=aS p.2/\H p.1=aV/\p.1≠X.env.locals/\p.1∉X.fs/\∀v,p.2.data≠ .cell v
 bO:fM X.prog X.w H s.heap
 len:σ.length=X.N.length
section
variable {X:Cx}{bu:List (Addr×Obj)}{σ:List (Option V)}{H H':Hp}{s:aT}{h':Heap}
theorem Cx.Ok.aab(ok:X.Ok)(e:X.base.get? b=aS o):b∉X.fs:=λhb=>by
 have:=(ok.fO.mem hb).1;rw[e] at this;cases this
theorem Inv.bs(I:Inv X bu σ H s):∀b o,X.base.get? b=aS o->s.heap.get? b=aS o/\H b=none:=λb o e=>
 ⟨I.base.keep b o (I.ok.bs b o e).1 (I.ok.bs b o e).2 (I.ok.aab e) (I.ok.lJ b o e),I.base.free b o (I.ok.bs b o e).1 (I.ok.bs b o e).2 (I.ok.lJ b o e)⟩
theorem Inv.bk(I:Inv X bu σ H s):∀b o,X.base.get? b=aS o->s.heap.get? b=aS o:=λb o e=>(I.bs b o e).1
theorem Inv.mod(I:Inv X bu σ H s):Mod X.K X.mg X.base:=I.ok.mod
theorem Inv.dG(I:Inv X bu σ H s):X.K.In s.heap:=I.ok.mod.pA.keeps I.bk
theorem Inv.fr(I:Inv X bu σ H s):∃m,Fr X.base X.env.locals s.heap m:=
 let ⟨m,hn,_⟩:=I.loc
 ⟨m,hn,I.bk,Ab4 I.ok.mH I.ok.above⟩
theorem Inv.lt(I:Inv X bu σ H s):X.env.locals<s.heap.objs.size:=let ⟨_,hn,_⟩:=I.loc;hn.lt
theorem Inv.sz(I:Inv X bu σ H s):X.s₀.heap.objs.size<=s.heap.objs.size:=Ab4 I.ok.above (AF8 I.lt)
theorem Inv.aac(I:Inv X bu σ H s){a:Addr}(h:s.heap.objs.size<=a):a∉X.fs:=λhb=>by
 obtain⟨_,o,ho,_⟩:=I.ok.fO.mem hb;exact bV (Ac6 (Ab1 ho) (Ab4 I.sz h)) (Ag7 _)
theorem Inv.qi(I:Inv X bu σ H s):∀x c,X.env.cells.lookup x=aS c->c≠X.env.locals:=λx c e z=>by
 obtain⟨v,o,ho,hd⟩:=I.cell x c e;obtain⟨m,⟨o',es,ep,qy,ua,_⟩,_⟩:=I.loc;rw[z,qy] at ho;cases ho;rw[ua] at hd;cases hd
theorem Inv.fO(I:Inv X bu σ H s):s.heap.FunFrames X.base X.bw:=by
 have all:∀(l:List Env),(∀b∈cA l,b∈X.fs)->X.s₀.heap.FunFrames X.base l->s.heap.FunFrames X.base l:=by
  intro l
  induction l with
  | nil=>intro _ _;trivial
  | cons env r ih=>
   intro hs hl;obtain⟨hk,⟨L,o,hf,hn,ho,hd⟩,hr⟩:=hl;have hL:L∈X.fs:=hs L (by unfold cA;rw[Av2,hf];exact Ab0);obtain⟨sl,e⟩:=I.base.slot L o ho (I.ok.pB L hL) hL λz=>I.ok.lq L z hL;exact⟨hk,⟨L,_,hf,hn,e,hd⟩,ih (λb hb=>hs b (by unfold cA;rw[Av2,hf];exact Aa8 _ hb)) hr⟩
 exact all X.bw (λ_ hb=>hb) I.ok.fO
theorem Inv.stack(I:Inv X bu σ H s):s.heap.FunFrames X.base X.stack:=by
 rcases I.ok.sS with e | ⟨e,hf⟩
 .rw[e];exact I.fO
 .rw[e];obtain⟨m,hn,_⟩:=I.loc;refine .cons (by rw[I.ok.kind];decide) hf hn ?_ I.fO;exact AC2 (Ab4 I.ok.mH I.ok.above)
theorem Inv.nU(I:Inv X bu σ H s):∀b∈cA X.stack,b∈X.env.locals::X.fs:=λb hb=>by
 rcases I.ok.sS with e | ⟨e,hf⟩
 .rw[e] at hb;exact Aa8 _ hb
 .rw[e] at hb;unfold cA at hb;rw[Av2,hf] at hb;exact hb
theorem Inv.dc(I:Inv X bu σ H s):∀b∈cA X.stack,H b=none:=λb hb=>by
 rcases Aa7.mp (I.nU b hb) with e | hb
 .rw[e];exact I.free
 .obtain⟨_,o,ho,_⟩:=I.ok.fO.mem hb;exact I.base.free b o ho (I.ok.pB b hb) λz=>I.ok.lq b z hb
theorem Inv.step{ch:List Addr}(I:Inv X bu σ H s)
  (rD:∀b∈ch,(b∈X.ex\/X.s₀.heap.objs.size<=b)/\b≠X.env.locals/\(∀x c,X.env.cells.lookup x=aS c->c≠b)/\∀p∈X.pn++bu,p.1≠b)
  (keep:∀b o,b≠X.env.locals->b∉X.fs->b∉ch->s.heap.get? b=aS o->H b=aV->h'.get? b=aS o)
  (slot:∀b o,b≠X.env.locals->b∈X.fs->b∉ch->s.heap.get? b=aS o->H b=aV->∃sl,h'.get? b=aS { o with slots:=sl }) (free:∀b o,b∉ch->s.heap.get? b=aS o->H b=aV->H' b=aV)
  (there:∀b o,b∉ch->s.heap.get? b=aS o->∃o',h'.get? b=aS o')
  (gY:∀b xs,H b=aS (.tup xs)->H' b=aS (.tup xs)) (gz:∀b o u,H b=aS (.mG o u)->H' b=aS (.mG o u)) (gB:∀b ps,H b=aS (.ko ps)->∃more,H' b=aS (.ko (ps++more)))
  (ns:∀m,s.heap.Ns X.env.locals m->h'.Ns X.env.locals m) (bO:fM X.prog X.w H' h') (hg:Av9 g'):
  Inv X bu σ H' { s with heap:=h',gens:=g',drawn:=d',toks:=t' }:=by
 have vN:∀b o,X.s₀.heap.get? b=aS o->b≠X.env.locals:=λb o e=>Ac8 (Ac6 (Ab1 e) I.ok.above);have yW:∀b o,X.s₀.heap.get? b=aS o->b∉X.ex->b∉ch:=λb o e hx hb=>by
  rcases (rD b hb).1 with z | z
  .exact hx z
  .exact bV (Ac6 (Ab1 e) z) (Ag7 _)
 have cellK:∀x c,X.env.cells.lookup x=aS c->∀v,s.heap.IsCell c v->h'.IsCell c v:=λx c e v ⟨o,ho,hd⟩=>by
  have wW:c∉ch:=λz=>(rD c z).2.2.1 x c e rfl;by_cases hc:c∈X.fs
  .obtain⟨sl,q⟩:=slot c o (I.qi x c e) hc wW ho (I.dH x c e);exact⟨_,q,hd⟩
  .exact⟨o,keep c o (I.qi x c e) hc wW ho (I.dH x c e),hd⟩
 refine⟨I.ok,I.os,hg,⟨λb o e n hb hx=>?_,λb o e n hb hx=>?_,λb o e n hx=>?_,λb o e hx=>?_,λb xs e=>gY b xs (I.base.gY b xs e),λb o xs e=>gz b o xs (I.base.gz b o xs e),λb ps e=>?_⟩,?_,λx c e=>?_,?_,λx c e=>?_,λp hp=>?_,bO,I.len⟩
 .exact keep b o (vN b o e) hb (yW b o e hx) (I.base.keep b o e n hb hx) (I.base.free b o e n hx)
 .obtain⟨sl,e1⟩:=I.base.slot b o e n hb hx;obtain⟨sl',e2⟩:=slot b _ (vN b o e) hb (yW b o e hx) e1 (I.base.free b o e n hx);exact⟨sl',e2⟩
 .obtain⟨o',e1⟩:=I.base.there b o e hx;exact free b o' (yW b o e hx) e1 (I.base.free b o e n hx)
 .obtain⟨o',e1⟩:=I.base.there b o e hx;exact there b o' (yW b o e hx) e1
 .obtain⟨m1,e1⟩:=I.base.gB b ps e;obtain⟨m2,e2⟩:=gB b _ e1;exact⟨m1++m2,by rw[e2,AD7]⟩
 .obtain⟨m,hn,hl⟩:=I.loc;refine⟨m,ns m hn,λi x v e1 e2 e3=>?_⟩;obtain⟨u,r,l⟩:=hl i x v e1 e2 e3;refine⟨u,r,?_⟩;rcases l with l | ⟨k,c,e,z⟩
  .exact .inl l
  .exact .inr ⟨k,c,e,cellK x c e _ z⟩
 .obtain⟨v,z⟩:=I.cell x c e;exact⟨v,cellK x c e v z⟩
 .obtain⟨m,⟨o,_,_,ho,_⟩,_⟩:=I.loc;exact free _ o (λz=>(rD _ z).2.1 rfl) ho I.free
 .obtain⟨v,o,ho,hd⟩:=I.cell x c e;exact free c o (λz=>(rD c z).2.2.1 x c e rfl) ho (I.dH x c e)
 .obtain⟨e,n,ne,nf,d⟩:=I.pin p hp;have wW:p.1∉ch:=λz=>(rD p.1 z).2.2.2 p hp rfl;exact⟨keep p.1 p.2 ne nf wW e n,free p.1 p.2 wW e n,ne,nf,d⟩
theorem Inv.un(I:Inv X bu σ H s)(u:Un X.fs [] H H' s.heap h')(bO:fM X.prog X.w H' h'):Inv X bu σ H' { s with heap:=h',toks:=t' }:=by
 obtain⟨m,⟨o,es,ep,ho,r⟩,_⟩:=id I.loc;obtain⟨sl,hL⟩:=u.any ho I.free (by simp);exact I.step (g':=s.gens) (d':=s.drawn) (ch:=[]) (λ_ z=>nomatch z) (λb o _ hb _ e n=>u.keep b o e n hb (by simp)) (λb o _ hb _ e n=>u.slot b o e n hb (by simp)) (λb o _ e n=>u.free b o e n (by simp)) (λb o _ e=>u.there b o e (by simp)) u.gY u.gz u.gB (λm' hm=>by
  obtain⟨o',yX,ep',qy,r'⟩:=hm;rw[ho] at qy;cases qy;exact⟨_,yX,ep',hL,r'⟩) bO I.bare
theorem Inv.call(I:Inv X bu σ H s)(u:Un (cA X.stack) ch H H' s.heap h')(bO:fM X.prog X.w H' h')(hg:Av9 g')
  (rD:∀b∈ch,(b∈X.ex\/X.s₀.heap.objs.size<=b)/\b≠X.env.locals/\(∀x c,X.env.cells.lookup x=aS c->c≠b)/\∀p∈X.pn++bu,p.1≠b):
  Inv X bu σ H' { s with heap:=h',gens:=g',drawn:=d',toks:=t' }:=by
 obtain⟨m,⟨o,es,ep,ho,r⟩,_⟩:=id I.loc;obtain⟨sl,hL⟩:=u.any ho I.free λz=>(rD _ z).2.1 rfl;exact I.step (ch:=ch) rD (λb o hL hb hc e n=>u.keep b o e n (λz=>(Aa7.mp (I.nU b z)).elim hL hb) hc) (λb o _ _ hc e n=>u.any e n hc) (λb o hc e n=>u.free b o e n hc) (λb o hc e=>u.there b o e hc) u.gY u.gz u.gB (λm' hm=>by
  obtain⟨o',yX,ep',qy,r'⟩:=hm;rw[ho] at qy;cases qy;exact⟨_,yX,ep',hL,r'⟩) bO hg
theorem Inv.turned(I:Inv X bu σ H s)(k:∀b o,b≠it->s.heap.get? b=aS o->h'.get? b=aS o)(hn:H it=aV)(hL:it≠X.env.locals)
  (h1:it∈X.ex\/X.s₀.heap.objs.size<=it) (h2:∀x c,X.env.cells.lookup x=aS c->c≠it) (h3:∀p∈X.pn++bu,p.1≠it):Inv X bu σ H { s with heap:=h',toks:=t' }:=by
 have wX:∀b u,H b=aS u->b≠it:=λb u e z=>by rw[z,hn] at e;cases e
 refine I.step (g':=s.gens) (d':=s.drawn) (ch:=[it]) (λb hb=>?_) (λb o _ _ hc e _=>k b o (λz=>hc (by simp[z])) e) (λb o _ _ hc e _=>⟨o.slots,k b o (λz=>hc (by simp[z])) e⟩) (λ_ _ _ _ n=>n)
  (λb o hc e=>⟨o,k b o (λz=>hc (by simp[z])) e⟩) (λ_ _ e=>e) (λ_ _ _ e=>e) (λb ps e=>⟨#[],by rw[e];simp⟩) (λm hm=>?_) (λb u e=>?_) I.bare
 .have e:b=it:=by simpa using hb
  subst e;exact⟨h1,hL,h2,h3⟩
 .obtain⟨o,es,ep,ho,r⟩:=hm;exact⟨o,es,ep,k _ o (Ak9 hL) ho,r⟩
 .refine(I.bO b u e).kc (λc v hc q=>k c v ?_ q) (λ_ q=>q) λ_ _ q=>q;rcases hc with z | z
  .rw[z];exact wX b u e
  .exact wX c _ z
theorem Inv.tok(I:Inv X bu σ H s)(t:Nat):Inv X bu σ H { s with toks:=t }:=I.un (h':=s.heap) (t':=t) Un.refl I.bO
theorem Inv.kept(I:Inv X bu σ H s)(k:∀b u,s.heap.get? b=aS u->h'.get? b=aS u):Inv X bu σ H { s with heap:=h',toks:=t' }:=I.un (Un.kept k) (I.bO.kept k)
theorem Inv.laid{a:Addr}{o:HO}{t':Nat}(I:Inv X bu σ H s)(k:∀b u,s.heap.get? b=aS u->h'.get? b=aS u)(hp:s.heap.objs.size<=a)(new:bK X.prog X.w (upd H a o) h' a o):
 Inv X bu σ (upd H a o) { s with heap:=h',toks:=t' }:=I.un (Un.laid k hp (I.bO.fresh hp)) (I.bO.laid k hp new)
theorem Inv.write(I:Inv X bu σ H s)(mu:wU (H x))(he:e=x\/H e=aS (.own x))(k:∀b u,b≠e->s.heap.get? b=aS u->h'.get? b=aS u)(vK:∃u,h'.get? e=aS u)
 (new:bK X.prog X.w (upd H x o) h' x o):Inv X bu σ (upd H x o) { s with heap:=h',toks:=t' }:=I.un (Un.write mu he k vK) (I.bO.write mu he k vK new)
theorem Inv.weak{σ':List (Option V)}(I:Inv X bu σ H s)(hl:σ'.length=σ.length)(w:∀(i:Nat) v,σ'[i]?=aS (aS v)->σ[i]?=aS (aS v)):Inv X bu σ' H s:=
 ⟨I.ok,I.os,I.bare,I.base,let ⟨m,hn,rS⟩:=I.loc;⟨m,hn,λi x v e1 e2 e3=>rS i x v e1 (w i v e2) e3⟩,I.cell,I.free,I.dH,I.pin,I.bO,hl.trans I.len⟩
theorem Inv.kq(I:Inv X bu σ H s)(h:∀p∈qz,s.heap.get? p.1=aS p.2/\H p.1=aV/\p.1≠X.env.locals/\p.1∉X.fs/\∀v,p.2.data≠ .cell v):Inv X qz σ H s:=
 ⟨I.ok,I.os,I.bare,I.base,I.loc,I.cell,I.free,I.dH,λp hp=>(Ad6.mp hp).elim (λz=>I.pin p (Aq3 _ z)) (h p),I.bO,I.len⟩
theorem IT{N:List Str}(hN:N.Nodup){i j:Nat}(a:N[i]?=aS x)(b:N[j]?=aS x):i=j:=by
 obtain⟨h1,e1⟩:=Ab8.mp a;obtain⟨h2,e2⟩:=Ab8.mp b;exact(List.getElem_inj hN).mp (e1.trans e2.symm)
theorem PJ(I:Inv X bu σ H s)(hN:X.N.Nodup)(hi:X.N[i]?=aS x)(hx:Loc X.env.scope x)(r:RelV v u)
  (h:∀s',Inv X bu (σ.set i (aS v)) H s'->(∃a,Ao8 a s.heap s'.heap/\(a=X.env.locals\/X.env.cells.lookup x=aS a))->Q () s') (hf:X.fn x=true\/X.env.scope.names.lookup x=aS .local:=by w_means):aW M A (storeName X.env x u) Q E s:=by
 obtain⟨m,hn,hl⟩:=id I.loc;have nX:(X.env.scope.kind == .class||(X.env.scope.kind == .module&&X.env.locals != X.env.globals))=false:=by rw[I.ok.kind];rfl
 have yY:i<σ.length:=by rw[I.len];exact(Ab8.mp hi).1
 have qi:=I.qi;have tracked:∀{a:Addr} {h':Heap},(∃o,s.heap.get? a=aS o/\H a=aV)->Ao8 a s.heap h'->fM X.prog X.w H h':=λ{a h'} ha hs b ob e=>by
  obtain⟨_,_,kD⟩:=ha;refine(I.bO b ob e).kc (λc w' hc q=>(hs.2 c ?_).trans q) (λ_ q=>q) λ_ _ q=>q;rintro rfl;rcases hc with rfl | hc
  .rw[kD] at e;cases e
  .rw[kD] at hc;cases hc
 rcases hx with hk | hk
 .refine wpAny_storeName_local hk hn (λh' qA hs=>?_) nX;obtain⟨oL,_,_,hoL,_⟩:=id hn;refine h _ ⟨I.ok,I.os,I.bare,⟨λb o e n hb hx=>?_,λb o e n hb hx=>?_,I.base.free,λb o e hx=>?_,I.base.gY,I.base.gz,I.base.gB⟩,⟨_,qA,λj y v' e1 e2 e3=>?_⟩,λy c e=>?_,I.free,I.dH,λp hp=>?_,tracked ⟨oL,hoL,I.free⟩ hs,by simpa using I.len⟩ ⟨_,hs, .inl rfl⟩
  .exact(hs.2 b (Ac8 (Ac6 (Ab1 e) I.ok.above))).trans (I.base.keep b o e n hb hx)
  .obtain⟨sl,e1⟩:=I.base.slot b o e n hb hx;exact⟨sl,(hs.2 b (Ac8 (Ac6 (Ab1 e) I.ok.above))).trans e1⟩
  .obtain⟨o',e1⟩:=I.base.there b o e hx;exact⟨o',(hs.2 b (Ac8 (Ac6 (Ab1 e) I.ok.above))).trans e1⟩
  .by_cases hj:j=i
   .subst hj;rw[hi] at e1;cases e1;rw[As8 yY] at e2;cases e2;exact⟨u,r, .inl ⟨hk,by simp⟩⟩
   .rw[Au4 (Ak9 hj)] at e2;obtain⟨u',r',q⟩:=hl j y v' e1 e2 e3;refine⟨u',r',?_⟩;rcases q with ⟨k,e⟩ | ⟨k,c,e,z⟩
    .refine .inl ⟨k,?_⟩;have:y≠x:=λe=>hj (IT hN e1 (e▸hi));simp[this,e]
    .exact .inr ⟨k,c,e,z.sameBut hs (qi y c e)⟩
  .obtain⟨w',z⟩:=I.cell y c e;exact⟨w',z.sameBut hs (qi y c e)⟩
  .obtain⟨e,n,ne,nf,d⟩:=I.pin p hp;exact⟨(hs.2 p.1 ne).trans e,n,ne,nf,d⟩
 .have wY:X.fn x=true:=by
   rcases hf with z | z
   .exact z
   .rw[z] at hk;cases hk
  obtain⟨c,hc⟩:=I.ok.has x (.inl hk);obtain⟨w',z⟩:=I.cell x c hc;refine wpAny_storeName_cell I.ok.kind hk hc z (λh' vO hs=>?_);obtain⟨oc,sV,aad⟩:=id z;refine h { s with heap:=h' } ⟨I.ok,I.os,I.bare,⟨λb o e n hb hx=>?_,λb o e n hb hx=>?_,I.base.free,λb o e hx=>?_,I.base.gY,I.base.gz,I.base.gB⟩,⟨m,hn.sameBut hs (Ak9 (qi x c hc)),λj y v' e1 e2 e3=>?_⟩,λy c' e=>?_,I.free,I.dH,λp hp=>?_,tracked ⟨oc,sV,I.dH x c hc⟩ hs,by simpa using I.len⟩ ⟨c,hs, .inr hc⟩
  .exact(hs.2 b (Ac8 (Ac6 (Ab1 e) (I.ok.rB x c wY hc)))).trans (I.base.keep b o e n hb hx)
  .obtain⟨sl,e1⟩:=I.base.slot b o e n hb hx;exact⟨sl,(hs.2 b (Ac8 (Ac6 (Ab1 e) (I.ok.rB x c wY hc)))).trans e1⟩
  .obtain⟨o',e1⟩:=I.base.there b o e hx;exact⟨o',(hs.2 b (Ac8 (Ac6 (Ab1 e) (I.ok.rB x c wY hc)))).trans e1⟩
  .by_cases hj:j=i
   .subst hj;rw[hi] at e1;cases e1;rw[As8 yY] at e2;cases e2;exact⟨u,r, .inr ⟨.inl hk,c,hc,vO⟩⟩
   .rw[Au4 (Ak9 hj)] at e2;obtain⟨u',r',q⟩:=hl j y v' e1 e2 e3;refine⟨u',r',?_⟩;rcases q with q | ⟨k,c',e,z'⟩
    .exact .inl q
    .refine .inr ⟨k,c',e,z'.sameBut hs ?_⟩;rintro rfl;exact hj (IT hN e1 (I.ok.inj _ _ _ e hc▸hi))
  .by_cases hcc:c'=c
   .subst hcc;exact⟨_,vO⟩
   .obtain⟨w2,z2⟩:=I.cell y c' e;exact⟨w2,z2.sameBut hs hcc⟩
  .obtain⟨e,n,ne,nf,d⟩:=I.pin p hp;refine⟨(hs.2 p.1 ?_).trans e,n,ne,nf,d⟩;intro q;rw[q,sV] at e;have q':oc=p.2:=Ae1.inj e;exact d w' (by rw[<-q'];exact aad)
theorem CA(I:Inv X bu σ H s)(hN:X.N.Nodup)(hi:X.N[i]?=aS x)(hx:Loc X.env.scope x)(r:RelV v u)
  (h:∀s',Inv X bu (σ.set i (aS v)) H s'->Q () s') (hf:X.fn x=true\/X.env.scope.names.lookup x=aS .local:=by w_means):aW M A (storeName X.env x u) Q E s:=
 PJ I hN hi hx r (λs' I' _=>h s' I') hf
theorem Inv.kF{s':aT}(I:Inv X bu σ H s)(ho:s'.os=s.os)(u:Un (cA X.stack) ch H H' s.heap s'.heap)(bO:fM X.prog X.w H' s'.heap)(hg:Av9 s'.gens)
  (rD:∀b∈ch,(b∈X.ex\/X.s₀.heap.objs.size<=b)/\b≠X.env.locals/\(∀x c,X.env.cells.lookup x=aS c->c≠b)/\∀p∈X.pn++bu,p.1≠b):Inv X bu σ H' s':=by
 obtain⟨h',g',d',t',o'⟩:=s';have e:o'=s.os:=ho;subst e;exact I.call (g':=g') (t':=t') (d':=d') u bO hg rD
end
noncomputable abbrev XK:=Value->Option Addr->Hp->Prop
noncomputable abbrev St:=List (Option V)
noncomputable abbrev VK:=V->Hp->Prop
noncomputable abbrev TE:=St->Hp->VK->Prop
noncomputable abbrev TT:=St->Hp->(Bool->Hp->Prop)->Prop
noncomputable abbrev TA:=St->Hp->(List V->Hp->Prop)->Prop
structure Ends where
 nx:St->Hp->Prop
 rt:VK
 bk:St->Hp->Prop:=λ_ _=>False
 ct:St->Hp->Prop:=λ_ _=>False
noncomputable abbrev TS:=Ends->St->Hp->Prop
variable {X:Cx}{pos p:Pos}{H:Hp}{bu:List (Addr×Obj)}{σ:St}{A:An2}{e tg o:br}{K:aU}{C:Addr}{w:bg}{Q:Value->aT->Prop}{P:Program}{us:List Value}{es:List br}{te ta:TE}{h:Heap}{ps:List Str}{i:Nat}{body:List Stmt}{fp:List Addr}{mA mg:Str->Option Value}{kw:List (Str×Value)}{fd:Am7}{vs:List V}
noncomputable def EP(X:Cx)(bu:List (Addr×Obj))(σ:St)(Q:VK)(u:Value)(s':aT):Prop:=∃v H',Inv X bu σ H' s'/\RelV v u/\Q v H'
noncomputable def TP(X:Cx)(bu:List (Addr×Obj))(σ:St)(Q:Bool->Hp->Prop)(b:Bool)(s':aT):Prop:=∃H',Inv X bu σ H' s'/\Q b H'
noncomputable def AP(X:Cx)(bu:List (Addr×Obj))(σ:St)(Q:List V->Hp->Prop)(us:List Value)(s':aT):Prop:=∃vs H',Inv X bu σ H' s'/\Vals vs us/\Q vs H'
noncomputable def SP(X:Cx)(bu:List (Addr×Obj))(D:Ends)(f:Flow)(s':aT):Prop:=
 match f with
 | .next=>∃σ' H',Inv X bu σ' H' s'/\D.nx σ' H'
 | .brk=>∃σ' H',Inv X bu σ' H' s'/\D.bk σ' H'
 | .cont=>∃σ' H',Inv X bu σ' H' s'/\D.ct σ' H'
 | .ret u=>∃v σ' H',Inv X bu σ' H' s'/\RelV v u/\D.rt v H'
noncomputable def PE(X:Cx)(e:br)(t:TE):Prop:=
 ∀(bu:List (Addr×Obj)) (s:aT) (σ:St) (H:Hp) (Q:VK),Inv X bu σ H s->t σ H Q->aW (aX X.prog X.w) X.A (bh e X.env) (EP X bu σ Q) X.xe s
noncomputable def PT(X:Cx)(e:br)(t:TT):Prop:=
 ∀(bu:List (Addr×Obj)) (s:aT) (σ:St) (H:Hp) (Q:Bool->Hp->Prop),Inv X bu σ H s->t σ H Q->aW (aX X.prog X.w) X.A (isTrue e X.env (bh e X.env)) (TP X bu σ Q) X.xe s
noncomputable def PW(X:Cx)(e:br)(t:TT):Prop:=
 ∀(whole:Sem Value) (bu:List (Addr×Obj)) (s:aT) (σ:St) (H:Hp) (Q:Bool->Hp->Prop),Inv X bu σ H s->t σ H Q->aW (aX X.prog X.w) X.A (isTrue e X.env whole) (TP X bu σ Q) X.xe s
theorem PW.pt(h:PW X e t):PT X e t:=h _
noncomputable def PA(X:Cx)(es:List br)(t:TA):Prop:=
 ∀(pos:Pos) (bu:List (Addr×Obj)) (s:aT) (σ:St) (H:Hp) (Q:List V->Hp->Prop),Inv X bu σ H s->t σ H Q->aW (aX X.prog X.w) X.A (spliced (An9 pos (aZ es X.env))) (AP X bu σ Q) X.xe s
noncomputable def PS(X:Cx)(st:Stmt)(t:TS):Prop:=
 ∀(bu:List (Addr×Obj)) (s:aT) (σ:St) (H:Hp) (D:Ends),Inv X bu σ H s->t D σ H->aW (aX X.prog X.w) X.A (exec st X.env) (SP X bu D) X.xe s
noncomputable def lK(X:Cx)(st:List Stmt)(t:TS):Prop:=
 ∀(bu:List (Addr×Obj)) (s:aT) (σ:St) (H:Hp) (D:Ends),Inv X bu σ H s->t D σ H->aW (aX X.prog X.w) X.A (execs st X.env) (SP X bu D) X.xe s
theorem bZ{α:Type}{t:Sem α}{Q Q':α->aT->Prop}{M:Az3}{E:Value->aT->Prop}{s:aT}(h:aW M A t Q E s)(hQ:∀a s,Q a s->Q' a s):aW M A t Q' E s:=Ac7 h hQ λ_ _ x=>x
section
noncomputable def N0(i:Nat):TE:=λσ H Q=>∃v,σ[i]?=aS (aS v)/\Q v H
noncomputable def tC(v:V):TE:=λ_ H Q=>Q v H
theorem VH(hN:X.N[i]?=aS x)(hv:yV X.env.scope x)(hd:(x == ("__debug__":Str))=false:=by decide)(je:(x == ("__classdict__":Str))=false:=by decide):PE X (.Name x pos) (N0 i):=by
 intro bu s σ H Q I h;obtain⟨v,e,h⟩:=h;obtain⟨m,hn,hl⟩:=I.loc;obtain⟨u,r,l⟩:=hl i x v hN e hv;have fin:EP X bu σ Q u s:=⟨v,H,I,r,h⟩;rcases l with ⟨hk,hm⟩ | ⟨hk,c,hc,gQ⟩
 .exact wpAny_Name (wpAny_loadName_local I.ok.kind hk hn hm fin) hd
 .rcases hk with hk | hk
  .exact wpAny_Name (wpAny_loadName_cell I.ok.kind hk hc gQ fin) hd
  .exact wpAny_Name (wpAny_loadName_free I.ok.kind hk hc gQ fin je) hd
theorem Ad{i j pos}:PE X (.Constant (.int i) j pos) (tC (.int i)):=λ_ _ _ H _ I h=>wpAny_Constant_int ⟨.int i,H,I.tok _,⟨_,rfl⟩,h⟩
theorem FC{b j pos}:PE X (.Constant (.bool b) j pos) (tC (.bl b)):=λ_ _ _ H _ I h=>Constant_bool ⟨.bl b,H,I,rfl,h⟩
theorem AV{j pos}:PE X (.Constant .none j pos) (tC .bC):=λ_ _ _ H _ I h=>Constant_none ⟨.bC,H,I,rfl,h⟩
theorem Af{x j pos}:PE X (.Constant (.str x) j pos) (tC (.str x)):=λ_ _ _ H _ I h=>Calls.Constant_str ⟨.str x,H,I.tok _,⟨_,rfl⟩,h⟩
noncomputable def Gl(X:Cx)(x:Str):Prop:=X.env.kindOf x=aS .globalImplicit
theorem DE(I:Inv X bu σ H s)(hg:Gl X x)(hm:X.mg x=aS u)(h:Q u s)
  (hd:(x == ("__debug__":Str))=false:=by decide):aW (aX X.prog X.w) X.A (bh (.Name x pos) X.env) Q E s:=
 Ap9 I.ok.kind hg (Ay5 (by rw[I.ok.glob];exact I.mod.glob.keeps I.bk) hm h) hd
theorem Es(I:Inv X bu σ H s)(hg:Gl X x)(hm:X.mg x=aV)(hv:Am4 x=aS u)(h:Q u s)
  (hn:x≠"__name__":=by decide) (hd:(x == ("__debug__":Str))=false:=by decide):aW (aX X.prog X.w) X.A (bh (.Name x pos) X.env) Q E s:=by
 obtain⟨mb,h1,h2⟩:=I.mod.blt;exact Ap9 I.ok.kind hg (Calls.loadGlobal_builtin (by rw[I.ok.glob];exact I.mod.glob.keeps I.bk) hm (by rw[I.ok.blt];exact h1.keeps I.bk) ((h2 x hn).trans hv) h) hd
theorem Lg(hg:Gl X x)(hm:X.mg x=aS u)(r:RelV v u)(hd:(x == ("__debug__":Str))=false:=by decide):PE X (.Name x pos) (tC v):=
 λ_ _ _ H _ I h=>DE I hg hm ⟨v,H,I,r,h⟩ hd
theorem SL(hg:Gl X x)(hm:X.mg x=aV)(hv:Am4 x=aS u)(r:RelV v u)(hn:x≠"__name__":=by decide)(hd:(x == ("__debug__":Str))=false:=by decide):PE X (.Name x pos) (tC v):=
 λ_ _ _ H _ I h=>Es I hg hm hv ⟨v,H,I,r,h⟩ hn hd
variable {a b:br}{tb:TE}
noncomputable def tB(t:TE):TT:=λσ H Q=>t σ H λx H1=>∃c,x= .bl c/\Q c H1
theorem A4(h:PE X e t)(he:∀whole,isTrue e X.env whole=(do let v <-whole;standAt e.pos;Ax4 [v] (truthy v)):=by intro _;rfl):PT X e (tB t):=by
 intro bu s σ H Q I hw;refine isTrue_plain (bZ (h bu s σ H _ I hw) λv s1 ⟨x,H1,I1,r1,q1⟩=>?_) (he _);obtain⟨d,rfl,q⟩:=q1;cases r1;exact Ag4 ⟨H1,I1,q⟩
variable {tA yZ:TT}{rest:List br}
noncomputable def XO(t u:TT):TT:=λσ H Q=>t σ H λc H1=>if c=true then u σ H1 Q else Q false H1
noncomputable def tOr(t u:TT):TT:=λσ H Q=>t σ H λc H1=>if c=true then Q true H1 else u σ H1 Q
noncomputable def Xw(t:TT):TT:=λσ H Q=>t σ H λc H1=>Q (!c) H1
theorem En(ha:PT X a tA):PW X (.BoolOp .And [a] pos) tA:=by
 intro wh bu s σ H Q I h;refine isTrue_and (bZ (ha bu s σ H Q I h) λc s1 e=>?_);cases c with
 | true=>exact isTrue_and_nil e
 | false=>exact e
theorem Cg(ha:PT X a tA):PW X (.BoolOp .Or [a] pos) tA:=by
 intro wh bu s σ H Q I h;refine isTrue_or (bZ (ha bu s σ H Q I h) λc s1 e=>?_);cases c with
 | false=>exact isTrue_or_nil e
 | true=>exact e
theorem Fl(ha:PT X a tA)(hb:PW X (.BoolOp .And (b::rest) pos) yZ):PW X (.BoolOp .And (a::b::rest) pos) (XO tA yZ):=by
 intro wh bu s σ H Q I h;refine isTrue_and (bZ (ha bu s σ H _ I h) λc s1 ⟨H1,I1,q1⟩=>?_);cases c with
 | true=>exact hb wh bu s1 σ H1 Q I1 q1
 | false=>exact⟨H1,I1,q1⟩
theorem Dm(ha:PT X a tA)(hb:PW X (.BoolOp .Or (b::rest) pos) yZ):PW X (.BoolOp .Or (a::b::rest) pos) (tOr tA yZ):=by
 intro wh bu s σ H Q I h;refine isTrue_or (bZ (ha bu s σ H _ I h) λc s1 ⟨H1,I1,q1⟩=>?_);cases c with
 | true=>exact⟨H1,I1,q1⟩
 | false=>exact hb wh bu s1 σ H1 Q I1 q1
theorem BI(ha:PT X a tA):PT X (.UnaryOp .Not a pos) (Xw tA):=by
 intro bu s σ H Q I h;exact isTrue_not (ha bu s σ H (λc H1=>Q (!c) H1) I h)
noncomputable def U6(ta tb:TE):TE:=λσ H Q=>ta σ H λx H1=>∃c,x= .bl c/\if c=true then tb σ H1 Q else Q (.bl false) H1
noncomputable def U5(ta:TE):TE:=λσ H Q=>ta σ H λx H1=>∃c,x= .bl c/\Q (.bl (!c)) H1
theorem Fj{op}(h:PE X a t):PE X (.BoolOp op [a] pos) t:=λbu s σ H Q I hw=>BoolOp_one (h bu s σ H Q I hw)
theorem ES(ha:PE X a ta)(hb:PE X (.BoolOp .And (b::rest) pos) tb):PE X (.BoolOp .And (a::b::rest) pos) (U6 ta tb):=by
 intro bu s σ H Q I h;refine BoolOp_and (bZ (ha bu s σ H _ I h) λv s1 ⟨x,H1,I1,r1,q1⟩=>?_);obtain⟨c,rfl,q1⟩:=q1;cases r1;refine Ag4 ?_;cases c with
 | true=>exact hb bu s1 σ H1 Q I1 q1
 | false=>exact⟨.bl false,H1,I1,rfl,q1⟩
theorem Rc(ha:PE X a ta):PE X (.UnaryOp .Not a pos) (U5 ta):=by
 intro bu s σ H Q I h;refine UnaryOp_ (bZ (ha bu s σ H _ I h) λv s1 ⟨x,H1,I1,r1,q1⟩=>?_);obtain⟨c,rfl,q1⟩:=q1;cases r1;exact not_of (Ag4 ⟨.bl (!c),H1,I1,rfl,q1⟩)
noncomputable def tIf(t:TT)(ta tb:TE):TE:=λσ H Q=>t σ H λc H1=>if c=true then ta σ H1 Q else tb σ H1 Q
theorem C1(hc:PT X c tA)(ha:PE X a ta)(hb:PE X b tb):PE X (.IfExp c a b pos) (tIf tA ta tb):=by
 intro bu s σ H Q I h;refine wpAny_IfExp (bZ (hc bu s σ H _ I h) λd s1 ⟨H1,I1,q1⟩=>?_);cases d with
 | true=>exact ha bu s1 σ H1 Q I1 q1
 | false=>exact hb bu s1 σ H1 Q I1 q1
end
noncomputable def bx(K:aU)(H:Hp)(a:Addr)(xs:List V):Prop:=
 Rd H a (.lst xs)\/
  ∃(o:Obj) (its:Array Value) (n:Nat),K.lookup a=aS o/\o.cls= .type "list"/\o.dict=aV/\o.data= .seq its n/\its.size<=sizeLine/\Vals xs its.toList
noncomputable def dj(K:aU)(H:Hp)(a:Addr)(xs:List V):Prop:=
 Rd H a (.tup xs)\/
  ∃(o:Obj) (its:Array Value) (n:Nat),K.lookup a=aS o/\o.cls= .type "tuple"/\o.data= .seq its n/\its.size<=sizeLine/\Vals xs its.toList
noncomputable def Y1:Value->Option V
 | .none=>aS .bC
 | .bool b=>aS (.bl b)
 | .int i _=>aS (.int i)
 | .str x _=>aS (.str x)
 | .bytes b _=>aS (.pq b)
 | .float b _=>aS (.sR b)
 | .ref a=>aS (.ref a)
 | .type n=>aS (.ty n)
 | _=>aV
theorem RelV.abs(r:RelV x u):Y1 u=aS x:=by
 cases x with
 | bC=>cases r;rfl
 | bl _=>cases r;rfl
 | int _=>obtain⟨t,rfl⟩:=r;rfl
 | str _=>obtain⟨t,rfl⟩:=r;rfl
 | pq _=>obtain⟨t,rfl⟩:=r;rfl
 | sR _=>obtain⟨t,rfl⟩:=r;rfl
 | ref _=>cases r;rfl
 | ty _=>cases r;rfl
theorem RelV.inj(r:RelV x u)(q:RelV y u):x=y:=Ae1.inj (r.abs.symm.trans q.abs)
theorem Vals.inj:∀{xs ys:List V} {us:List Value},Vals xs us->Vals ys us->xs=ys
 | _,_,_, .nil, .nil=>rfl
 | _,_,_, .cons r t, .cons r' t'=>by rw[r.inj r',Vals.inj t t']
section
variable {s:aT}{a:Addr}{xs ys:List V}
theorem bx.of(h:H a=aS (.lst xs)):bx K H a xs:= .inl (.inl h)
theorem dj.of(h:H a=aS (.tup xs)):dj K H a xs:= .inl (.inl h)
theorem Inv.list(I:Inv X bu σ H s)(h:bx X.K H a xs):∃its:List Value,Vals xs its/\PlainL s.heap a its.toArray/\xs.length<=sizeLine:=by
 rcases h with h | ⟨o,its,n,hk,hc,hd,hs,hz,r⟩
 .obtain⟨z,its,n,r,e⟩:=h.ok I.bO;exact⟨its,r,⟨_,n,e,rfl,rfl,rfl⟩,z⟩
 .refine⟨its.toList,r,⟨o,n,I.dG a o hk,hc,hd,by simpa using hs⟩,?_⟩;have e:=r.length;simp only[Aq9] at e;omega
theorem Inv.tuple(I:Inv X bu σ H s)(h:dj X.K H a xs):∃its:List Value,Vals xs its/\IsTup s.heap a its.toArray/\xs.length<=sizeLine:=by
 rcases h with h | ⟨o,its,n,hk,hc,hs,hz,r⟩
 .obtain⟨z,its,r,p⟩:=h.ok I.bO;exact⟨its,r,p,z⟩
 .refine⟨its.toList,r,⟨o,I.dG a o hk,hc,n,by simpa using hs⟩,?_⟩;have e:=r.length;simp only[Aq9] at e;omega
theorem Inv.kG(I:Inv X bu σ H s)(h:bx X.K H a xs)(h':bx X.K H a ys):xs=ys:=by
 obtain⟨its,r,⟨o,n,e,_,_,d⟩,_⟩:=I.list h;obtain⟨its',r',⟨o',n',e',_,_,d'⟩,_⟩:=I.list h';rw[e] at e';cases e';rw[d] at d';injection d' with d1 _;have:its=its':=by simpa using congrArg Array.toList d1
 subst this;exact r.inj r'
theorem Inv.lB(I:Inv X bu σ H s)(h:dj X.K H a xs)(h':dj X.K H a ys):xs=ys:=by
 obtain⟨its,r,⟨o,e,_,n,d⟩,_⟩:=I.tuple h;obtain⟨its',r',⟨o',e',_,n',d'⟩,_⟩:=I.tuple h';rw[e] at e';cases e';rw[d] at d';injection d' with d1 _;have:its=its':=by simpa using congrArg Array.toList d1
 subst this;exact r.inj r'
end
noncomputable abbrev Cx.lu(X:Cx)(E:Value->aT->Prop):Cx:={ X with xe:=E }
noncomputable abbrev Cx.uc(X:Cx):Cx:=X.lu λ_ _=>False
theorem Cx.Ok.lu(ok:X.Ok)(E:Value->aT->Prop):(X.lu E).Ok:=
 ⟨ok.mod,ok.kind,ok.glob,ok.blt,ok.above,ok.inj,ok.has,ok.rB,ok.hd,ok.frames,ok.sS,ok.sU,ok.bs,ok.mH,ok.lJ,ok.lq,ok.fO,ok.pB⟩
theorem Cx.Ok.ie(ok:(X.lu E).Ok):X.Ok:=
 ⟨ok.mod,ok.kind,ok.glob,ok.blt,ok.above,ok.inj,ok.has,ok.rB,ok.hd,ok.frames,ok.sS,ok.sU,ok.bs,ok.mH,ok.lJ,ok.lq,ok.fO,ok.pB⟩
section
variable {s:aT}{E:Value->aT->Prop}
theorem Inv.lu(I:Inv X bu σ H s)(E:Value->aT->Prop):Inv (X.lu E) bu σ H s:=⟨I.ok.lu E,I.os,I.bare,I.base,I.loc,I.cell,I.free,I.dH,I.pin,I.bO,I.len⟩
theorem Inv.ie(I:Inv (X.lu E) bu σ H s):Inv X bu σ H s:=⟨I.ok.ie,I.os,I.bare,I.base,I.loc,I.cell,I.free,I.dH,I.pin,I.bO,I.len⟩
theorem SP.ie(h:SP (X.lu E) bu D f s'):SP X bu D f s':=by
 cases f with
 | next=>obtain⟨σ',H',I,q⟩:=h;exact⟨σ',H',I.ie,q⟩
 | brk=>obtain⟨σ',H',I,q⟩:=h;exact⟨σ',H',I.ie,q⟩
 | cont=>obtain⟨σ',H',I,q⟩:=h;exact⟨σ',H',I.ie,q⟩
 | ret u=>obtain⟨v,σ',H',I,r,q⟩:=h;exact⟨v,σ',H',I.ie,r,q⟩
theorem lK.uc{st:List Stmt}(h:lK X.uc st t):lK X st t:=λbu s σ H D I hw=>
 Ac7 (h bu s σ H D (I.lu _) hw) (λ_ _ q=>q.ie) λ_ _ z=>Aj2 z
end
section
variable {st:Stmt}{rest:List Stmt}{t u:TS}
noncomputable def U7:TS:=λD σ H=>D.nx σ H
noncomputable def Vq(t u:TS):TS:=λD σ H=>t { D with nx:=u D } σ H
theorem Aq:lK X [] U7:=λ_ _ σ H _ I h=>Aq0 ⟨σ,H,I,h⟩
theorem Ac(h1:PS X st t)(h2:lK X rest u):lK X (st::rest) (Vq t u):=by
 intro bu s σ H D I h;refine AB6 (bZ (h1 bu s σ H { D with nx:=u D } I h) λf s1 q=>?_);cases f with
 | next=>
  obtain⟨σ',H',I',q⟩:=q;exact h2 bu s1 σ' H' D I' q
 | ret v=>exact q
 | brk=>exact q
 | cont=>exact q
theorem Ae(h1:PS X st t):lK X [st] t:=by
 intro bu s σ H D I h;refine AB6 (bZ (h1 bu s σ H D I h) λf s1 q=>?_);cases f with
 | next=>exact Aq0 q
 | ret v=>exact q
 | brk=>exact q
 | cont=>exact q
theorem Inv.quiet(I:Inv X bu σ H s):interactive X.env=false:=by simp[interactive,I.ok.kind]
noncomputable def U3(te:TE):TS:=λD σ H=>te σ H λ_ H1=>D.nx σ H1
theorem AL(he:PE X e te)(hs:Av3 e aV pos.line X.env=pure false:=by rfl):PS X (.Expr e pos) (U3 te):=by
 intro bu s σ H D I h;exact wpAny_Expr_any (bZ (he bu s σ H _ I h) λv s1 ⟨x,H1,I1,r1,q1⟩=>⟨σ,H1,I1,q1⟩) I.quiet hs
noncomputable def XC(te:TE):TS:=λD σ H=>te σ H D.rt
theorem Ao(he:PE X e te):PS X (.Return (aS e) pos) (XC te):=by
 intro bu s σ H D I h;exact wpAny_Return_some (bZ (he bu s σ H _ I h) λv s1 ⟨x,H1,I1,r1,q1⟩=>⟨x,σ,H1,I1,r1,q1⟩)
noncomputable def Mo(c:TT)(t u:TS):TS:=λD σ H=>c σ H λb H1=>if b=true then t D σ H1 else u D σ H1
theorem Aw(hc:PT X c tc)(ha:lK X a t)(hb:lK X b u):PS X (.If c a b pos) (Mo tc t u):=by
 intro bu s σ H D I h;refine wpAny_If (bZ (hc bu s σ H _ I h) λd s1 ⟨H1,I1,q1⟩=>?_);cases d with
 | true=>exact ha bu s1 σ H1 D I1 q1
 | false=>exact hb bu s1 σ H1 D I1 q1
noncomputable def Vj:TS:=λ_ _ _=>False
theorem SI:PS X st Vj:=λ_ _ _ _ _ _ h=>h.elim
end
noncomputable abbrev TG:=V->St->Hp->(St->Hp->Prop)->Prop
noncomputable abbrev sW:=List V->St->Hp->(St->Hp->Prop)->Prop
noncomputable def PG(X:Cx)(target:br)(t:TG):Prop:=
 ∀(bu:List (Addr×Obj)) (s:aT) (σ:St) (H:Hp) (v:V) (u:Value) (Q:St->Hp->Prop),Inv X bu σ H s->RelV v u->t v σ H Q->
  aW (aX X.prog X.w) X.A (Ax1 target X.env u) (λ_ s'=>∃σ' H',Inv X bu σ' H' s'/\Q σ' H') X.xe s
noncomputable def vP(X:Cx)(ts:List br)(t:sW):Prop:=
 ∀(bu:List (Addr×Obj)) (s:aT) (σ:St) (H:Hp) (vs:List V) (us:List Value) (Q:St->Hp->Prop),Inv X bu σ H s->Vals vs us->t vs σ H Q->
  aW (aX X.prog X.w) X.A (assignInOrder ((Av4 ts X.env).map (·.2)) us) (λ_ s'=>∃σ' H',Inv X bu σ' H' s'/\Q σ' H') X.xe s
noncomputable abbrev S5:=V->V->V->Hp->(Hp->Prop)->Prop
noncomputable def XD(X:Cx)(t:S5):Prop:=
 ∀(bu:List (Addr×Obj)) (s:aT) (σ:St) (H:Hp) (o i v:V) (ov iv u:Value) (Q:Hp->Prop),Inv X bu σ H s->RelV o ov->RelV i iv->RelV v u->t o i v H Q->
  aW (aX X.prog X.w) X.A (setItem ov iv u) (λ_ s'=>∃H',Inv X bu σ H' s'/\Q H') X.xe s
noncomputable abbrev y9:=V->V->Hp->VK->Prop
noncomputable def PIp(X:Cx)(op:Operator)(t:y9):Prop:=
 ∀(bu:List (Addr×Obj)) (s:aT) (σ:St) (H:Hp) (x y:V) (v u:Value) (Q:VK),Inv X bu σ H s->RelV x v->RelV y u->t x y H Q->
  aW (aX X.prog X.w) X.A (inplaceOp op v u) (EP X bu σ Q) X.xe s
section
noncomputable def AN(i:Nat):TG:=λv σ H Q=>Q (σ.set i (aS v)) H
theorem BB(hN:X.N.Nodup)(hi:X.N[i]?=aS x)(hx:Loc X.env.scope x)(hf:X.fn x=true\/X.env.scope.names.lookup x=aS .local:=by w_means):PG X (.Name x pos) (AN i):=by
 intro bu s σ H v u Q I r h;exact AH9 (CA I hN hi hx r (λs' I'=>⟨_,H,I',h⟩) hf)
noncomputable def Na:sW:=λvs σ H Q=>vs=[]/\Q σ H
noncomputable def Dp(t:TG)(u:sW):sW:=λvs σ H Q=>∃v r,vs=v::r/\t v σ H λσ' H'=>u r σ' H' Q
theorem IA:vP X [] Na:=by
 intro bu s σ H vs us Q I r h;obtain⟨e,h⟩:=h;subst e;cases r;exact assignInOrder_nil ⟨σ,H,I,h⟩
theorem Cv(h1:PG X e t)(h2:vP X es u)
  (hs:(Av4 (e::es) X.env).map (·.2)=Ax1 e X.env::(Av4 es X.env).map (·.2):=by rfl):vP X (e::es) (Dp t u):=by
 intro bu s σ H vs us Q I r h;obtain⟨v,vr,e1,h⟩:=h;subst e1;cases r with
 | cons r rr=>
  rw[hs];refine assignInOrder_cons (bZ (h1 bu s σ H _ _ _ I r h) λ_ s1 ⟨σ1,H1,I1,q1⟩=>?_);exact h2 bu s1 σ1 H1 _ _ Q I1 rr q1
noncomputable def LK(K:aU)(n:Nat)(t:sW):TG:=λv σ H Q=>∃a xs,v= .ref a/\dj K H a xs/\xs.length=n/\t xs σ H Q
theorem RH(hc:X.calm=true)(h:vP X es t)
  (hn:(Av4 es X.env).length=n:=by rfl) (fQ:(Av4 es X.env).findIdx? (·.1)=none:=by rfl):PG X (.Tuple es k pos) (LK X.K n t):=by
 intro bu s σ H v u Q I r hw;obtain⟨a,xs,e1,hq,hl,hw⟩:=hw;subst e1;cases r;obtain⟨its,rv,ht,hz⟩:=I.tuple hq;refine assign_Tuple_tuple (I.ok.hd hc) ht (by simp[hn, <-hl,rv.length]) fQ λh' hx=>?_;have I1:Inv X bu σ H { s with heap:=h' }:=I.kept (t':=s.toks) λb o e=>hx b o (Ac8 (Ab1 e)) e;exact h bu _ σ H xs _ Q I1 (by simpa using rv) hw
noncomputable def W8(to ti:TE)(t:S5):TG:=λv σ H Q=>to σ H λo H1=>ti σ H1 λi H2=>t o i v H2 λH3=>Q σ H3
theorem Oe{i:br}(ho:PE X o to)(hi:PE X i ti)(hs:XD X t)
  (ha:∀v,Ax1 (.Subscript o i pos) X.env v=(do
   let ov <-Ax4 [v] (bh o X.env)
   let iv <-Ax4 [v,ov] (bh i X.env)
   standAt pos
   Ax4 [v,ov,iv] (setItem ov iv v)
   release [v,ov,iv] []):=by intro _;rfl):PG X (.Subscript o i pos) (W8 to ti t):=by
 intro bu s σ H v u Q I r h;rw[ha];refine Aa1 (Ae8 (bZ (ho bu s σ H _ I h) λov s1 ⟨x,H1,I1,r1,q1⟩=>?_));refine Aa1 (Ae8 (bZ (hi bu s1 σ H1 _ I1 q1) λiv s2 ⟨y,H2,I2,r2,q2⟩=>?_));refine Aa1 (Ag1 (Aa1 (Ae8 (bZ (hs bu s2 σ H2 x y v ov iv u _ I2 r1 r2 r q2) λ_ s3 ⟨H3,I3,q3⟩=>?_))));exact wpAny_release ⟨σ,H3,I3,q3⟩
noncomputable def NR(te:TE)(g:TG):TS:=λD σ H=>te σ H λx H1=>g x σ H1 D.nx
theorem LX(he:PE X e te)(hg:PG X tg g)(hs:swapsWithSole [tg] e pos.line X.env=pure false:=by rfl)(hw:swappedStores [tg] e X.env=pure none:=by rfl)
  (h1:(Av4 [tg] X.env).map (·.2)=[Ax1 tg X.env]:=by rfl):PS X (.Assign [tg] e pos) (NR te g):=by
 intro bu s σ H D I h;refine wpAny_Assign_stores (bZ (he bu s σ H _ I h) λv s1 ⟨x,H1,I1,r1,q1⟩=>?_) hs hw;rw[h1];exact bZ (hg bu s1 σ H1 x v _ I1 r1 q1) λ_ s2 q=>q
theorem Am(i:Nat)(hN:X.N.Nodup)(he:PE X e te)(hi:X.N[i]?=aS x:=by rfl)(hx:Loc X.env.scope x:=by exact Ao0 rfl)(hs:Av3 e (aS (.Name x pos')) pos.line X.env=pure false:=by rfl)(hf:X.fn x=true\/X.env.scope.names.lookup x=aS .local:=by w_means):
  PS X (.Assign [.Name x pos'] e pos) (NR te (AN i)):=by
 intro bu s σ H D I h;refine wpAny_Assign_Name (bZ (he bu s σ H _ I h) λv s1 ⟨y,H1,I1,r1,q1⟩=>?_) hs;exact CA I1 hN hi hx r1 (λs2 I2=>⟨_,H1,I2,q1⟩) hf
noncomputable def WX(i:Nat)(te:TE)(ti:y9):TS:=λD σ H=>∃x,σ[i]?=aS (aS x)/\te σ H λy H1=>ti x y H1 λz H2=>D.nx (σ.set i (aS z)) H2
theorem WI(hN:X.N.Nodup)(hi:X.N[i]?=aS x)(hx:Loc X.env.scope x)(he:PE X e te)(ho:PIp X op ti)(hf:X.fn x=true\/X.env.scope.names.lookup x=aS .local:=by w_means):
  PS X (.AugAssign (.Name x pos') op e pos) (WX i te ti):=by
 intro bu s σ H D I h;obtain⟨v,e1,h⟩:=h;obtain⟨m,hn,hl⟩:=I.loc;have vis:yV X.env.scope x:=by rcases hx with k | k;exact .inl k;exact .inr (.inl k)
 obtain⟨u,r,l⟩:=hl i x v hi e1 vis;refine wpAny_AugAssign_Name ?_;have go:aW (aX X.prog X.w) X.A (bh e X.env) (λw s₂=>aW (aX X.prog X.w) X.A (inplaceOp op u w) (λr s₃=>aW (aX X.prog X.w) X.A (storeName X.env x r) (λ_=>SP X bu D .next) X.xe s₃) X.xe s₂) X.xe s:=by
  refine bZ (he bu s σ H _ I h) λw s1 ⟨y,H1,I1,r1,q1⟩=>?_;refine bZ (ho bu s1 σ H1 v y u w _ I1 r r1 q1) λz s2 ⟨zv,H2,I2,r2,q2⟩=>?_;exact CA I2 hN hi hx r2 (λs3 I3=>⟨_,H2,I3,q2⟩) hf
 rcases l with ⟨hk,hm⟩ | ⟨hk,c,hc,gQ⟩
 .exact wpAny_loadName_local I.ok.kind hk hn hm go
 .rcases hk with hk | hk
  .exact wpAny_loadName_cell I.ok.kind hk hc gQ go
  .rcases hx with k | k
   .have:X.env.scope.names.lookup x=aS .free:=hk;rw[k] at this;cases this
   .have:X.env.scope.names.lookup x=aS .free:=hk;rw[k] at this;cases this
end
section
noncomputable def NO(c:TT)(tb:TS):TS:=λD σ H=>∃W:Nat->St->Hp->Prop,(∃m,W m σ H)/\∀m σ H,W m σ H->
 c σ H λb H1=>if b=true then ∃N:St->Hp->Prop,(∀σ' H',N σ' H'->∃m',m'<m/\W m' σ' H')/\tb { D with nx:=N,ct:=N,bk:=D.nx } σ H1 else D.nx σ H1
theorem Js(hp:PassesOwn (aX X.prog X.w) X.A X.env X.xe)(hc:PT X c tc)(hb:lK X body tb):PS X (.While c body [] pos) (NO tc tb):=by
 intro bu s σ H D I h;obtain⟨W,⟨m0,w0⟩,turn⟩:=h;refine wpAny_While (codeAny_whileLoop (λn s'=>∃σ' H',Inv X bu σ' H' s'/\W n σ' H') ?_ m0 ⟨σ,H,I,w0⟩);rintro n s1 ⟨σ1,H1,I1,w1⟩;refine Aq1 hp (bZ (hc bu s1 σ1 H1 _ I1 (turn n σ1 H1 w1)) λb s2 ⟨H2,I2,q2⟩=>?_);cases b with
 | true=>
  obtain⟨N,hN,q2⟩:=q2;rw[bS rfl];refine Aq1 hp (bZ (hb bu s2 σ1 H2 _ I2 q2) λf s3 q3=>?_);cases f with
  | next=>
   obtain⟨σ3,H3,I3,n3⟩:=q3;obtain⟨m',hm,w3⟩:=hN σ3 H3 n3;exact⟨m',hm,σ3,H3,I3,w3⟩
  | cont=>
   obtain⟨σ3,H3,I3,n3⟩:=q3;obtain⟨m',hm,w3⟩:=hN σ3 H3 n3;exact⟨m',hm,σ3,H3,I3,w3⟩
  | brk=>exact q3
  | ret v=>exact q3
 | false=>
  rw[bG Ab3];exact Aq0 ⟨σ1,H2,I2,q2⟩
end
structure It where
 go:Nat->Hp->Prop
 jM:Nat->Hp->V->Hp->Prop
 stop:Nat->Hp->Prop
noncomputable def Dq(X:Cx)(bu:List (Addr×Obj))(H:Hp)(b:Addr):Prop:=
 H b=aV/\b≠X.env.locals/\b∉X.fs/\(b∈X.ex\/X.s₀.heap.objs.size<=b)/\(∀x c,X.env.cells.lookup x=aS c->c≠b)/\∀p∈X.pn++bu,p.1≠b
theorem Inv.kH{H':Hp}{s:aT}{b:Addr}(I:Inv X bu σ H s)(hb:s.heap.objs.size<=b)(hn:H' b=aV):Dq X bu H' b:=by
 refine⟨hn,AF9 (Ac6 I.lt hb),I.aac hb, .inr (Ab4 I.sz hb),λx c e z=>?_,λp hp z=>?_⟩
 .obtain⟨v,q⟩:=I.cell x c e;exact bV (Ac6 q.lt (by rw[z];exact hb)) (Ag7 _)
 .exact bV (Ac6 (Ab1 (I.pin p hp).1) (by rw[z];exact hb)) (Ag7 _)
structure Turn(P:Program)(w:bg)(K:aU)(tg:br)(J:It)(fp:List Addr)(it:Addr)(tn:Nat->Heap->Prop):Prop where
  mem:it∈fp
  obj:∀i h,tn i h->∀b∈fp,∃o,h.get? b=aS o/\∀v,o.data≠ .cell v
  keep:∀i h h',tn i h->(∀b∈fp,∀o,h.get? b=aS o->h'.get? b=aS o)->tn i h'
  item:∀(X:Cx),X.prog=P->X.w=w->X.K=K->X.calm=true->∀(i:Nat) (bu:List (Addr×Obj)) (s:aT) (σ:St) (H:Hp) (E:Value->aT->Prop),Inv X bu σ H s->(∀b∈fp,Dq X bu H b)->tn i s.heap->J.go i H->
    aW (aX P w) X.A (pyNext (.ref it)) (λr s1=>∃u,r=aS u/\
      aW (aX P w) X.A (As9 tg (.ref it) u) (λ_ s2=>∃x H',Inv X bu σ H' s2/\RelV x u/\J.jM i H x H'/\tn (i+1) s2.heap/\∀b∈fp,H' b=aV) E s1) E s
  done:∀(X:Cx),X.prog=P->X.w=w->X.K=K->X.calm=true->∀(i:Nat) (bu:List (Addr×Obj)) (s:aT) (σ:St) (H:Hp) (E:Value->aT->Prop),Inv X bu σ H s->(∀b∈fp,Dq X bu H b)->tn i s.heap->J.stop i H->
    aW (aX P w) X.A (pyNext (.ref it)) (λr s1=>r=aV/\Inv X bu σ H s1) E s
  self:∀(A:An2) (i:Nat) (s:aT) (Q:Value->aT->Prop) (E:Value->aT->Prop),tn i s.heap->Q (.ref it) s->aW (aX P w) A (pyIter (.ref it)) Q E s
noncomputable abbrev TI:=St->Hp->(It->Hp->Prop)->Prop
noncomputable def PIE(X:Cx)(bu:List (Addr×Obj))(σ:St)(tg:br)(R:It->Hp->Prop)(nv:Value)(s2:aT):Prop:=
 ∃(it:Addr) (fp:List Addr) (tn:Nat->Heap->Prop) (J:It) (H':Hp),nv= .ref it/\Inv X bu σ H' s2/\Turn X.prog X.w X.K tg J fp it tn/\tn 0 s2.heap/\(∀b∈fp,Dq X bu H' b)/\R J H'
noncomputable def PI(X:Cx)(tg iter:br)(wi:TI):Prop:=
 ∀(bu:List (Addr×Obj)) (s:aT) (σ:St) (H:Hp) (R:It->Hp->Prop),Inv X bu σ H s->wi σ H R->
  aW (aX X.prog X.w) X.A (bh iter X.env) (λv s1=>aW (aX X.prog X.w) X.A (pyIter v) (PIE X bu σ tg R) X.xe s1) X.xe s
theorem M6{s:aT}{o:Obj}{vs:Array Value}{Q:Unit->aT->Prop}(ho:s.heap.get? it=aS o)(hc:o.cls= .type n)(hd:o.data= .fields vs)
    (hn:["enumerate","zip","dict_itemiterator","dict_reverseitemiterator","odict_iterator","itertools.zip_longest","itertools.pairwise"].contains n=false) (hQ:Q () s):aW M A (As9 tg (.ref it) u) Q E s:=by
  unfold As9;cases tg <;> first
    | exact Ab2 hQ
    | (cases u <;> first
        | exact Ab2 hQ
        | (refine Aa1 (wpAny_load ho ?_)
           rw[hc,hd];show aW M A (if (["enumerate","zip","dict_itemiterator","dict_reverseitemiterator","odict_iterator","itertools.zip_longest","itertools.pairwise"].contains n&&vs[0]? == aS (Ay6 _))=true then _ else _) Q E s;rw[bG (by intro h;rw[hn,Af6] at h;cases h)];exact Ab2 hQ))
noncomputable def ud(K:aU)(a:Addr):It:=
 ⟨λi H=>∃xs x,bx K H a xs/\xs[i]?=aS x,λi H x H'=>H'=H/\∀xs,bx K H a xs->xs[i]?=aS x,λi H=>∃xs,bx K H a xs/\xs.length<=i⟩
noncomputable def wZ(K:aU)(a:Addr):It:=
 ⟨λi H=>∃xs x,dj K H a xs/\xs[i]?=aS x,λi H x H'=>H'=H/\∀xs,dj K H a xs->xs[i]?=aS x,λi H=>∃xs,dj K H a xs/\xs.length<=i⟩
noncomputable def rE(lo:Int)(n:Nat):It:=⟨λi _=>i<n,λi H x H'=>H'=H/\x= .int (lo+i),λi _=>n<=i⟩
theorem PR(a it:Addr):Turn P w K tg (ud K a) [it] it (λi h=>h.IsListIter it a i) where
  mem:=by simp
  obj:=λi h st b hb=>by
    have e:b=it:=by simpa using hb
    subst e;obtain⟨o,e,c,d⟩:=st;exact⟨o,e,λv z=>by rw[d] at z;cases z⟩
  keep:=λi h h' st k=>st.at λo e=>k it (by simp) o e
  item:=by
    intro X hP hw hK hc i bu s σ H E I hf st hg;subst hP hw hK;obtain⟨xs,x,hq,hx⟩:=hg;obtain⟨its,rv,p,hz⟩:=I.list hq;obtain⟨u,hu,ru⟩:=rv.get hx;obtain⟨f0,f1,f2,f3,f4,f5⟩:=hf it (by simp);refine wpAny_pyNext_list_item st p.isList (x:=u) (by simpa using hu) λh' lM sb=>?_;have I1:Inv X bu σ H { s with heap:=h' }:=I.turned (t':=s.toks) (λb o hb e=>(sb.2 b hb).trans e) f0 f1 f3 f4 f5;obtain⟨o,e,c,d⟩:=id lM;exact⟨u,rfl,M6 (s:={ s with heap:=h' }) e c d (by decide) ⟨x,H,I1,ru,⟨rfl,λys hy=>by rw[I.kG hy hq];exact hx⟩,lM,λb hb=>(hf b hb).1⟩⟩
  done:=by
    intro X hP hw hK hc i bu s σ H E I hf st hg;subst hP hw hK;obtain⟨xs,hq,hx⟩:=hg;obtain⟨its,rv,p,hz⟩:=I.list hq;obtain⟨f0,f1,f2,f3,f4,f5⟩:=hf it (by simp);have hl:=rv.length;exact wpAny_pyNext_list_end (I.ok.hd hc) st p.isList (by simp;omega) λh' eb=>⟨rfl,I.turned (t':=s.toks) (λb o hb e=>eb b o hb e) f0 f1 f3 f4 f5⟩
  self:=λ_ _ _ _ _ st h=>wpAny_pyIter_listiter st h
theorem N4(a it:Addr):Turn P w K tg (wZ K a) [it] it (λi h=>h.IsTupleIter it a i) where
  mem:=by simp
  obj:=λi h st b hb=>by
    have e:b=it:=by simpa using hb
    subst e;obtain⟨o,e,c,d⟩:=st;exact⟨o,e,λv z=>by rw[d] at z;cases z⟩
  keep:=λi h h' st k=>st.at λo e=>k it (by simp) o e
  item:=by
    intro X hP hw hK hc i bu s σ H E I hf st hg;subst hP hw hK;obtain⟨xs,x,hq,hx⟩:=hg;obtain⟨its,rv,p,hz⟩:=I.tuple hq;obtain⟨u,hu,ru⟩:=rv.get hx;obtain⟨f0,f1,f2,f3,f4,f5⟩:=hf it (by simp);refine wpAny_pyNext_tuple_item st (show s.heap.IsTuple a its.toArray from p) (x:=u) (by simpa using hu) λh' lM sb=>?_;have I1:Inv X bu σ H { s with heap:=h' }:=I.turned (t':=s.toks) (λb o hb e=>(sb.2 b hb).trans e) f0 f1 f3 f4 f5;obtain⟨o,e,c,d⟩:=id lM;exact⟨u,rfl,M6 (s:={ s with heap:=h' }) e c d (by decide) ⟨x,H,I1,ru,⟨rfl,λys hy=>by rw[I.lB hy hq];exact hx⟩,lM,λb hb=>(hf b hb).1⟩⟩
  done:=by
    intro X hP hw hK hc i bu s σ H E I hf st hg;subst hP hw hK;obtain⟨xs,hq,hx⟩:=hg;obtain⟨its,rv,p,hz⟩:=I.tuple hq;obtain⟨f0,f1,f2,f3,f4,f5⟩:=hf it (by simp);have hl:=rv.length;exact wpAny_pyNext_tuple_end (I.ok.hd hc) st (show s.heap.IsTuple a its.toArray from p) (by simp;omega) λh' eb=>⟨rfl,I.turned (t':=s.toks) (λb o hb e=>eb b o hb e) f0 f1 f3 f4 f5⟩
  self:=λ_ _ _ _ _ st h=>wpAny_pyIter_tupleiter st h
theorem NN(it:Addr)(lo:Int)(n:Nat):Turn P w K tg (rE lo n) [it] it (λi h=>IsRangeIter h it (lo+(i:Nat)*1) ((n:Int) - (i:Nat)) 1) where
  mem:=by simp
  obj:=λi h st b hb=>by
    have e:b=it:=by simpa using hb
    subst e;exact⟨_,st,λv z=>by
      have z':Ax5 _=Ay9 v:=z;cases z'⟩
  keep:=λi h h' st k=>k it (by simp) _ st
  item:=by
    intro X hP hw hK hc i bu s σ H E I hf st hg;subst hP hw hK;obtain⟨f0,f1,f2,f3,f4,f5⟩:=hf it (by simp);have W:=Walks.range (prog:=X.prog) (w:=X.w) (I.ok.hd hc) it lo 1 n;refine W.item i s _ _ hg st λv h' tk hv lM kk=>?_;obtain⟨t,rfl⟩:=hv;have I1:Inv X bu σ H { s with heap:=h',toks:=tk }:=I.turned (λb o hb e=>kk b o (by simpa using hb) e) f0 f1 f3 f4 f5;refine⟨_,rfl,M6 (s:={ s with heap:=h',toks:=tk }) (n:="range_iterator") lM rfl rfl (by decide) ⟨.int (lo+i),H,I1,⟨t,?_⟩,⟨rfl,rfl⟩,lM,λb hb=>(hf b hb).1⟩⟩;rw[Int.mul_one]
  done:=by
    intro X hP hw hK hc i bu s σ H E I hf st hg;subst hP hw hK;obtain⟨f0,f1,f2,f3,f4,f5⟩:=hf it (by simp);exact wpAny_pyNext_range_end (I.ok.hd hc) st (by have:n<=i:=hg;omega) λh' eb=>⟨rfl,I.turned (t':=s.toks) (λb o hb e=>eb b o hb e) f0 f1 f3 f4 f5⟩
  self:=λ_ _ _ _ _ st h=>wpAny_pyIter_rangeiter st h
section
noncomputable def RE(K:aU)(tl:TE):TI:=λσ H R=>tl σ H λx H1=>∃a,x= .ref a/\(∃xs,bx K H1 a xs)/\R (ud K a) H1
noncomputable def VD(K:aU)(tl:TE):TI:=λσ H R=>tl σ H λx H1=>∃a,x= .ref a/\(∃xs,dj K H1 a xs)/\R (wZ K a) H1
theorem Uy(hl:PE X l tl):PI X tg l (RE X.K tl):=by
 intro bu s σ H R I h;refine bZ (hl bu s σ H _ I h) λv s1 ⟨x,H1,I1,r1,q1⟩=>?_;obtain⟨a,e,⟨xs,hq⟩,q⟩:=q1;subst e;cases r1;obtain⟨its,rv,p,hz⟩:=I1.list hq;refine AI0 p.isList ?_;refine⟨s1.heap.objs.size,[s1.heap.objs.size],_,_,H1,rfl,I1.kept (t':=s1.toks) λb o e=>Aa4 _ e,PR a _,⟨_,Ab9 _ rfl,rfl,rfl⟩,λb hb=>?_,q⟩;have e:b=s1.heap.objs.size:=by simpa using hb
 subst e;exact I1.kH (Aa6 _) (I1.bO.fresh (Aa6 _))
theorem Ww(hl:PE X l tl):PI X tg l (VD X.K tl):=by
 intro bu s σ H R I h;refine bZ (hl bu s σ H _ I h) λv s1 ⟨x,H1,I1,r1,q1⟩=>?_;obtain⟨a,e,⟨xs,hq⟩,q⟩:=q1;subst e;cases r1;obtain⟨its,rv,p,hz⟩:=I1.tuple hq;refine wpAny_pyIter_tuple (show s1.heap.IsTuple a its.toArray from p) ?_;refine⟨s1.heap.objs.size,[s1.heap.objs.size],_,_,H1,rfl,I1.kept (t':=s1.toks) λb o e=>Aa4 _ e,N4 a _,⟨_,Ab9 _ rfl,rfl,rfl⟩,λb hb=>?_,q⟩;have e:b=s1.heap.objs.size:=by simpa using hb
 subst e;exact I1.kH (Aa6 _) (I1.bO.fresh (Aa6 _))
theorem Mt{s:aT}{lo hi:Int}(I:Inv X bu σ H s)(h1: -(2 ^ 62)<=lo)(h2:lo<2 ^ 62)(h3: -(2 ^ 62)<=hi)(h4:hi<2 ^ 62)
  (q:R (rE lo (hi - lo).toNat) H):aW (aX X.prog X.w) X.A (pyIter (.ref s.heap.objs.size)) (PIE X bu σ tg R) E { s with heap:=s.heap.push { cls:= .type "range",data:= .fields #[.int lo t, .int hi u, .int 1 v] },toks:=tk }:=by
 refine wpAny_pyIter_range (IsRange.new ..) (small_one h1 h2 h3 h4) ?_;have I1:Inv X bu σ H { s with heap:=s.heap.push { cls:= .type "range",data:= .fields #[.int lo t, .int hi u, .int 1 v] },toks:=tk }:=I.kept λb o e=>Aa4 _ e;refine⟨(s.heap.push { cls:= .type "range",data:= .fields #[.int lo t, .int hi u, .int 1 v] }).objs.size,[(s.heap.push { cls:= .type "range",data:= .fields #[.int lo t, .int hi u, .int 1 v] }).objs.size],_,_,H,rfl,
  I1.kept (t':=tk) λb o e=>Aa4 _ e,NN _ lo (hi - lo).toNat,?_,λb hb=>?_,q⟩
 .have e1:lo+((0:Nat):Int)*1=lo:=by simp
  have e2:(((hi - lo).toNat:Nat):Int) - ((0:Nat):Int)=Ai7 lo hi 1:=by rw[rangeSize_one];split <;> omega
  show IsRangeIter _ _ (lo+((0:Nat):Int)*1) ((((hi - lo).toNat:Nat):Int) - ((0:Nat):Int)) 1;rw[e1,e2];exact Ab9 _ rfl
 .have e:b=(s.heap.push { cls:= .type "range",data:= .fields #[.int lo t, .int hi u, .int 1 v] }).objs.size:=by simpa using hb
  subst e;exact I1.kH (Aa6 _) (I1.bO.fresh (Aa6 _))
noncomputable def UY(ta:TA):TI:=λσ H R=>ta σ H λvs H1=>∃j:Int,vs=[.int j]/\ -(2 ^ 62)<=j/\j<2 ^ 62/\R (rE 0 j.toNat) H1
noncomputable def UJ(ta:TA):TI:=λσ H R=>ta σ H λvs H1=>∃i j:Int,vs=[.int i, .int j]/\(-(2 ^ 62)<=i/\i<2 ^ 62/\ -(2 ^ 62)<=j/\j<2 ^ 62)/\R (rE i (j - i).toNat) H1
theorem DS{ta:TA}(hg:Gl X "range")(hm:X.mg "range"=aV)(ha:PA X [a] ta)(hs:aZ [a] X.env=[(false,bh a X.env)]:=by rfl):PI X tg (.Call (.Name "range" p) [a] [] pos) (UY ta):=by
 intro bu s σ H R I h;refine Call_ (Es I hg hm boot_range (Al6 (bZ (ha pos bu s σ H _ I h) λus s1 ⟨vs,H1,I1,r1,q1⟩=>?_) hs rfl));obtain⟨j,e,q1,q2,q⟩:=q1;subst e;cases r1 with
 | cons r rr=>
  cases rr;obtain⟨t,rfl⟩:=r;exact call_range_1 (Mt I1 (by omega) (by omega) q1 q2 (by simpa using q))
theorem KI{ta:TA}(hg:Gl X "range")(hm:X.mg "range"=aV)(ha:PA X [a,b] ta)(hs:aZ [a,b] X.env=[(false,bh a X.env),(false,bh b X.env)]:=by rfl)(lN:aZ [b] X.env=[(false,bh b X.env)]:=by rfl):
  PI X tg (.Call (.Name "range" p) [a,b] [] pos) (UJ ta):=by
 intro bu s σ H R I h;refine Call_ (Es I hg hm boot_range (Al6 (bZ (ha pos bu s σ H _ I h) λus s1 ⟨vs,H1,I1,r1,q1⟩=>?_) (by rw[hs,lN]) (by rw[lN];rfl)));obtain⟨i,j,e,⟨q1,q2,q3,q4⟩,q⟩:=q1;subst e;cases r1 with
 | cons r rr=>
  cases rr with
  | cons r' rr=>
   cases rr;obtain⟨t,rfl⟩:=r;obtain⟨t',rfl⟩:=r';exact call_range_2 (Mt I1 q1 q2 q3 q4 q)
noncomputable def Xo(wi:TI)(g:TG)(tb:TS):TS:=λD σ H=>wi σ H λJ H1=>∃W:Nat->Nat->St->Hp->Prop,(∃m,W 0 m σ H1)/\∀i m σ H,W i m σ H->
 (J.stop i H/\D.nx σ H)\/(J.go i H/\∃N:St->Hp->Prop,(∀σ' H',N σ' H'->∃m',m'<m/\W (i+1) m' σ' H')/\∀x H',J.jM i H x H'->g x σ H' λσ2 H2=>tb { D with nx:=N,ct:=N,bk:=D.nx } σ2 H2)
noncomputable def Hw(fp:List Addr)(h:Heap):List (Addr×Obj):=fp.filterMap λb=>(h.get? b).map λo=>(b,o)
theorem Co{o:Obj}(hb:b∈fp)(e:h.get? b=aS o):(b,o)∈Hw fp h:=List.mem_filterMap.mpr ⟨b,hb,by rw[e];rfl⟩
theorem PL{p:Addr×Obj}(hp:p∈Hw fp h):p.1∈fp/\h.get? p.1=aS p.2:=by
 obtain⟨b,hb,e⟩:=List.mem_filterMap.mp hp;cases q:h.get? b with
 | none=>rw[q] at e;cases e
 | some o=>
  rw[q] at e;have e':(b,o)=p:=Ae1.inj e;subst e';exact⟨hb,q⟩
theorem Inv.pinned{s:aT}(I:Inv X bu σ H s)(hf:∀b∈fp,Dq X bu H b)(ho:∀b∈fp,∃o,s.heap.get? b=aS o/\∀v,o.data≠ .cell v):Inv X (bu++Hw fp s.heap) σ H s:=
 I.kq λp hp=>(Ad6.mp hp).elim (λz=>I.pin p (Ac0 _ z)) λz=>by
  obtain⟨hb,e⟩:=PL z;obtain⟨f0,f1,f2,_⟩:=hf p.1 hb;obtain⟨o,e',d⟩:=ho p.1 hb;rw[e] at e';cases e';exact⟨e,f0,f1,f2,d⟩
theorem Inv.fu(I:Inv X (bu++pl) σ H s):Inv X bu σ H s:=I.kq λp hp=>I.pin p (Ac0 _ (Aq3 _ hp))
theorem EK(hp:PassesOwn (aX X.prog X.w) X.A X.env X.xe)(hc:X.calm=true)(hi:PI X tg iter wi)(hg:PG X tg g)(hb:lK X body tb)
  (hs:∀x,Am5 iter X.env x=pure x:=by intro _;rfl):PS X (.For tg iter body [] pos) (Xo wi g tb):=by
 intro bu s σ H D I h;refine wpAny_For (bZ (hi bu s σ H _ I h) λv s1 h1=>bZ h1 λnv s2 h2=>?_) hs;obtain⟨it,fp,tn,J,H2,e,I2,T,ue,f2,W,⟨m0,w0⟩,turn⟩:=h2;subst e;have kI:∀{H':Hp},(∀b∈fp,H' b=aV)->∀b∈fp,Dq X bu H' b:=λhn b hb=>⟨hn b hb,(f2 b hb).2⟩;refine codeAny_forLoop_any (λn s'=>∃i σ' H',Inv X bu σ' H' s'/\tn i s'.heap/\(∀b∈fp,H' b=aV)/\W i n σ' H') ?_ m0 ⟨0,σ,H2,I2,ue,λb hb=>(f2 b hb).1,w0⟩;rintro n s3 ⟨i,σ3,H3,I3,sY,sZ,w3⟩;rcases turn i n σ3 H3 w3 with ⟨stop,qn⟩ | ⟨go,N,hN,step⟩
 .refine Aq1 hp (bZ (T.done X rfl rfl rfl hc i bu s3 σ3 H3 X.xe I3 (kI sZ) sY stop) λr s4 ⟨hr,I4⟩=>?_);subst hr;exact Aq0 ⟨σ3,H3,I4,qn⟩
 .refine Aq1 hp (bZ (T.item X rfl rfl rfl hc i bu s3 σ3 H3 X.xe I3 (kI sZ) sY go) λr s4 ⟨u,hr,h4⟩=>?_);subst hr;refine Aq1 hp (bZ h4 λ_ s5 ⟨x,H5,I5,r5,y5,st5,fr5⟩=>?_);have I5':=I5.pinned (kI fr5) (T.obj _ _ st5);refine Aq1 hp (bZ (hg _ s5 σ3 H5 x u _ I5' r5 (step x H5 y5)) λ_ s6 ⟨σ6,H6,I6,q6⟩=>?_);refine Aq1 hp (bZ (hb _ s6 σ6 H6 _ I6 q6) λf s7 q7=>?_);have again:∀{σ7:St} {H7:Hp},Inv X (bu++Hw fp s5.heap) σ7 H7 s7->N σ7 H7->∃m,m<n/\∃i σ' H',Inv X bu σ' H' s7/\tn i s7.heap/\(∀b∈fp,H' b=aV)/\W i m σ' H':=λ{σ7 H7} I7 n7=>by
   obtain⟨m',hm,w7⟩:=hN σ7 H7 n7;refine⟨m',hm,i+1,σ7,H7,I7.fu,T.keep _ _ _ st5 λb hb o e=>(I7.pin (b,o) (Ac0 _ (Ac0 _ (Co hb e)))).1,λb hb=>?_,w7⟩;obtain⟨o,e,d⟩:=T.obj _ _ st5 b hb;exact(I7.pin (b,o) (Ac0 _ (Ac0 _ (Co hb e)))).2.1
  cases f with
  | next=>obtain⟨σ7,H7,I7,n7⟩:=q7;exact again I7 n7
  | cont=>obtain⟨σ7,H7,I7,n7⟩:=q7;exact again I7 n7
  | brk=>obtain⟨σ7,H7,I7,q7⟩:=q7;exact⟨σ7,H7,I7.fu,q7⟩
  | ret v=>obtain⟨x7,σ7,H7,I7,r7,q7⟩:=q7;exact⟨x7,σ7,H7,I7.fu,r7,q7⟩
end
noncomputable abbrev R2:=V->V->Hp->VK->Prop
noncomputable def gf(X:Cx)(f:Value->Value->Sem Value)(r:R2):Prop:=
 ∀(bu:List (Addr×Obj)) (s:aT) (σ:St) (H:Hp) (x y:V) (v u:Value) (Q:VK),Inv X bu σ H s->RelV x v->RelV y u->r x y H Q->
  aW (aX X.prog X.w) X.A (f v u) (EP X bu σ Q) X.xe s
noncomputable def UnR(X:Cx)(f:Value->Sem Value)(r:V->Hp->VK->Prop):Prop:=
 ∀(bu:List (Addr×Obj)) (s:aT) (σ:St) (H:Hp) (x:V) (v:Value) (Q:VK),Inv X bu σ H s->RelV x v->r x H Q->
  aW (aX X.prog X.w) X.A (f v) (EP X bu σ Q) X.xe s
noncomputable def BG(X:Cx)(f:Value)(r:List V->Hp->VK->Prop):Prop:=
 ∀(bu:List (Addr×Obj)) (s:aT) (σ:St) (H:Hp) (xs:List V) (us:List Value) (Q:VK),Inv X bu σ H s->Vals xs us->r xs H Q->
  aW (aX X.prog X.w) X.A (call f us) (EP X bu σ Q) X.xe s
noncomputable def uf(r:R2)(ta tb:TE):TE:=λσ H Q=>ta σ H λx H1=>tb σ H1 λy H2=>r x y H2 Q
noncomputable def tUn(r:V->Hp->VK->Prop)(ta:TE):TE:=λσ H Q=>ta σ H λx H1=>r x H1 Q
noncomputable def rI(C:Int->Int->Prop)(g:Int->Int->V):R2:=λx y H Q=>∃i j,x= .int i/\y= .int j/\C i j/\Q (g i j) H
noncomputable def qj(g:Int->Int->V):R2:=λx y H Q=>∃i j,x= .int i/\y= .int j/\Q (g i j) H
noncomputable def rU(g:Int->V):V->Hp->VK->Prop:=λx H Q=>∃i,x= .int i/\Q (g i) H
section
variable {a b c:br}{tb tc:TE}
theorem Wc(ha:PE X a ta)(hb:PE X b tb){R:V->V->Hp->Prop}(I:Inv X bu σ H s)
  (h:ta σ H λx H1=>tb σ H1 λy H2=>R x y H2) {f:Value->Value->Sem Value}
  (hf:∀v u s2 x y H2,Inv X bu σ H2 s2->RelV x v->RelV y u->R x y H2->aW (aX X.prog X.w) X.A (f v u) Q X.xe s2):
  aW (aX X.prog X.w) X.A (bh a X.env) (λv s₁=>aW (aX X.prog X.w) X.A (bh b X.env) (λu s₂=>aW (aX X.prog X.w) X.A (f v u) Q X.xe s₂) X.xe s₁) X.xe s:=by
 refine bZ (ha bu s σ H _ I h) λv s1 ⟨x,H1,I1,r1,q1⟩=>?_;refine bZ (hb bu s1 σ H1 _ I1 q1) λu s2 ⟨y,H2,I2,r2,q2⟩=>?_;exact hf v u s2 x y H2 I2 r1 r2 q2
theorem Aj(ho:gf X (Ar2 op) r)(ha:PE X a ta)(hb:PE X b tb):PE X (.BinOp a op b pos) (uf r ta tb):=by
 intro bu s σ H Q I h;exact wpAny_BinOp (Wc ha hb I h λv u s2 x y H2 I2 rx ry q=>ho bu s2 σ H2 x y v u Q I2 rx ry q)
theorem OE(ho:UnR X (unaryOp op) r)(ha:PE X a ta):PE X (.UnaryOp op a pos) (tUn r ta):=by
 intro bu s σ H Q I h;exact UnaryOp_ (bZ (ha bu s σ H _ I h) λv s1 ⟨x,H1,I1,r1,q1⟩=>ho bu s1 σ H1 x v Q I1 r1 q1)
theorem xg{C:Int->Int->Prop}{g:Int->Int->Int}
  (rule:∀(i j:Int) (t u:Tok) (s:aT) (Q:Value->aT->Prop) (E:Value->aT->Prop),C i j->Q (.int (g i j) s.toks) { s with toks:=s.toks+1 }->aW (aX X.prog X.w) X.A (f (.int i t) (.int j u)) Q E s):
  gf X f (rI C λi j=> .int (g i j)):=by
 intro bu s σ H x y v u Q I rx ry h;obtain⟨i,j,rfl,rfl,hc,q⟩:=h;obtain⟨t,rfl⟩:=rx;obtain⟨t',rfl⟩:=ry;exact rule i j t t' s _ _ hc ⟨.int (g i j),H,I.tok _,⟨_,rfl⟩,q⟩
theorem SZ{g:Int->Int->Int}
  (rule:∀(i j:Int) (t u:Tok) (s:aT) (Q:Value->aT->Prop) (E:Value->aT->Prop),Q (.int (g i j) s.toks) { s with toks:=s.toks+1 }->aW (aX X.prog X.w) X.A (f (.int i t) (.int j u)) Q E s):
  gf X f (qj λi j=> .int (g i j)):=by
 intro bu s σ H x y v u Q I rx ry h;obtain⟨i,j,rfl,rfl,q⟩:=h;obtain⟨t,rfl⟩:=rx;obtain⟨t',rfl⟩:=ry;exact rule i j t t' s _ _ ⟨.int (g i j),H,I.tok _,⟨_,rfl⟩,q⟩
theorem Wr{g:Int->Int->Bool}
  (rule:∀(i j:Int) (t u:Tok) (s:aT) (Q:Value->aT->Prop) (E:Value->aT->Prop),Q (.bool (g i j)) s->aW (aX X.prog X.w) X.A (f (.int i t) (.int j u)) Q E s):
  gf X f (qj λi j=> .bl (g i j)):=by
 intro bu s σ H x y v u Q I rx ry h;obtain⟨i,j,rfl,rfl,q⟩:=h;obtain⟨t,rfl⟩:=rx;obtain⟨t',rfl⟩:=ry;exact rule i j t t' s _ _ ⟨.bl (g i j),H,I,rfl,q⟩
noncomputable def YT(i j:Int):Prop:=0<=j/\j<=1000000/\i.natAbs<2 ^ 64
noncomputable def ug(i j:Int):Prop:=(-(2 ^ 64)<i/\i<2 ^ 64)\/(-(2 ^ 64)<j/\j<2 ^ 64)
theorem ug.ok{i j:Int}(h:ug i j):IntMulOk i j:=by
 rcases h with ⟨h1,h2⟩ | ⟨h1,h2⟩
 .exact .of_left (intBits_le_64 h1 h2)
 .exact .of_right (intBits_le_64 h1 h2)
theorem Ny(k:Nat):(0:Int)<=2 ^ k:=by
 rw[two_pow_cast];exact Int.natCast_nonneg _
theorem Av:gf X (Ar2 .Add) (qj λi j=> .int (i+j)):=SZ λ_ _ _ _ _ _ _ q=>add_int q
theorem FE:gf X (Ar2 .Sub) (qj λi j=> .int (i - j)):=SZ λ_ _ _ _ _ _ _ q=>sub_int q
theorem Ep:gf X (Ar2 .Mult) (rI ug λi j=> .int (i*j)):=xg λ_ _ _ _ _ _ _ hc q=>mul_int q hc.ok
theorem A1:gf X (Ar2 .Mod) (rI (λ_ j=>0<j) λi j=> .int (i%j)):=xg λi j _ _ _ _ _ hc q=>by
 have h1:(0:Int)<j:=hc;exact mod_int' (by omega) (by rw[Int.fmod_eq_emod_of_nonneg i (by omega)];exact q)
theorem Og:gf X (Ar2 .LShift) (rI YT λi j=> .int (i*2 ^ j.toNat)):=xg λ_ _ _ _ _ _ _ hc q=>lshift_int_small hc.1 hc.2.1 hc.2.2 q
theorem Vp:gf X (Ar2 .RShift) (rI (λ_ j=>0<=j) λi j=> .int (i / 2 ^ j.toNat)):=xg λi j _ _ _ _ _ hc q=>
 rshift_int hc (by rw[AJ2 i (Ny _)];exact q)
theorem VM:gf X (Ar2 .BitAnd) (qj λi j=> .int (Builtin.bitAnd i j)):=SZ λ_ _ _ _ _ _ _ q=>and_int q
theorem SW:gf X (inplaceOp .Add) (qj λi j=> .int (i+j)):=SZ λ_ _ _ _ _ _ _ q=>iadd_int q
theorem unI{g:Int->Int}
  (rule:∀(i:Int) (t:Tok) (s:aT) (Q:Value->aT->Prop) (E:Value->aT->Prop),Q (.int (g i) s.toks) { s with toks:=s.toks+1 }->aW (aX X.prog X.w) X.A (f (.int i t)) Q E s):
  UnR X f (rU λi=> .int (g i)):=by
 intro bu s σ H x v Q I rx h;obtain⟨i,rfl,q⟩:=h;obtain⟨t,rfl⟩:=rx;exact rule i t s _ _ ⟨.int (g i),H,I.tok _,⟨_,rfl⟩,q⟩
theorem LE:UnR X (unaryOp .USub) (rU λi=> .int (-i)):=unI λ_ _ _ _ _ q=>neg_int q
end
noncomputable def Wm:V->V->Bool
 | .bC, .bC=>true | .bC, .int _=>true | .int _, .bC=>true | .bC, .bl _=>true | .bl _, .bC=>true | .bC, .str _=>true | .str _, .bC=>true
 | .int _, .int _=>true | .bl _, .bl _=>true | .str _, .str _=>true | .pq _, .pq _=>true
 | .int _, .str _=>true | .str _, .int _=>true | .bl _, .str _=>true | .str _, .bl _=>true
 | _,_=>false
noncomputable def zb:R2:=λx y H Q=>Wm x y=true/\Q (.bl (decide (x=y))) H
noncomputable def rNe:R2:=λx y H Q=>Wm x y=true/\Q (.bl (!decide (x=y))) H
theorem OP{i j:Int}:decide (V.int i=V.int j)=(i == j):=by
 rw[Ad5];simp
theorem RZ{i j:Bool}:decide (V.bl i=V.bl j)=(i == j):=by
 rw[Ad5];simp
theorem Oz{i j:Str}:decide (V.str i=V.str j)=(i == j):=by
 rw[Ad5];simp
theorem Oq{i j:Array UInt8}:decide (V.pq i=V.pq j)=(i.toList == j.toList):=by
 rw[Ad5];cases i;cases j;simp
section
variable {a b c:br}{tb tc:TE}
theorem AK{Q:VK}(I:Inv X bu σ H s)(q:Q (.bl k) H)(e:k=k'):EP X bu σ Q (.bool k') s:=by
 subst e;exact⟨.bl k,H,I,rfl,q⟩
theorem Bb:gf X (Ak3 .Eq) zb:=by
 intro bu s σ H x y v u Q I rx ry h;obtain⟨hs,q⟩:=h;cases x with
 | bC=>
  cases rx;cases y with
  | bC=>cases ry;exact PySem.EqNone.eq_none_none (AK I q (by simp))
  | bl j=>cases ry;exact PySem.EqNone.eq_none_bool (AK I q (by simp))
  | int j=>obtain⟨t',rfl⟩:=ry;exact PySem.EqNone.eq_none_int (AK I q (by simp))
  | str j=>obtain⟨t',rfl⟩:=ry;exact PySem.EqNone.eq_none_str (AK I q (by simp))
  | _=>exact bV (show false=true from hs) Ab3
 | bl i=>
  cases rx;cases y with
  | bC=>cases ry;exact PySem.EqNone.eq_bool_none (AK I q (by simp))
  | bl j=>cases ry;exact eq_bool (AK I q RZ)
  | str j=>obtain⟨t',rfl⟩:=ry;exact PySem.EqMixed.eq_bool_str (AK I q (by simp))
  | _=>exact bV (show false=true from hs) Ab3
 | int i=>
  obtain⟨t,rfl⟩:=rx;cases y with
  | bC=>cases ry;exact PySem.EqNone.eq_int_none (AK I q (by simp))
  | int j=>obtain⟨t',rfl⟩:=ry;exact eq_int (AK I q OP)
  | str j=>obtain⟨t',rfl⟩:=ry;exact PySem.EqMixed.eq_int_str (AK I q (by simp))
  | _=>exact bV (show false=true from hs) Ab3
 | str i=>
  obtain⟨t,rfl⟩:=rx;cases y with
  | bC=>cases ry;exact PySem.EqNone.eq_str_none (AK I q (by simp))
  | bl j=>cases ry;exact PySem.EqMixed.eq_str_bool (AK I q (by simp))
  | int j=>obtain⟨t',rfl⟩:=ry;exact PySem.EqMixed.eq_str_int (AK I q (by simp))
  | str j=>obtain⟨t',rfl⟩:=ry;exact eq_str (AK I q Oz)
  | _=>exact bV (show false=true from hs) Ab3
 | pq i=>
  obtain⟨t,rfl⟩:=rx;cases y with
  | pq j=>obtain⟨t',rfl⟩:=ry;exact PySem.W.eq_bytes (AK I q Oq)
  | _=>exact bV (show false=true from hs) Ab3
 | _=>cases y <;> exact bV (show false=true from hs) Ab3
theorem JH:gf X (Ak3 .NotEq) rNe:=by
 intro bu s σ H x y v u Q I rx ry h;obtain⟨hs,q⟩:=h;cases x with
 | bC=>
  cases rx;cases y with
  | bC=>cases ry;exact PySem.EqNone.ne_none_none (AK I q (by simp))
  | bl j=>cases ry;exact PySem.EqNone.ne_none_bool (AK I q (by simp))
  | int j=>obtain⟨t',rfl⟩:=ry;exact PySem.EqNone.ne_none_int (AK I q (by simp))
  | str j=>obtain⟨t',rfl⟩:=ry;exact PySem.EqNone.ne_none_str (AK I q (by simp))
  | _=>exact bV (show false=true from hs) Ab3
 | bl i=>
  cases rx;cases y with
  | bC=>cases ry;exact PySem.EqNone.ne_bool_none (AK I q (by simp))
  | bl j=>cases ry;exact ne_bool (AK I q (congrArg not RZ))
  | str j=>obtain⟨t',rfl⟩:=ry;exact PySem.EqMixed.ne_bool_str (AK I q (by simp))
  | _=>exact bV (show false=true from hs) Ab3
 | int i=>
  obtain⟨t,rfl⟩:=rx;cases y with
  | bC=>cases ry;exact PySem.EqNone.ne_int_none (AK I q (by simp))
  | int j=>obtain⟨t',rfl⟩:=ry;exact ne_int (AK I q (congrArg not OP))
  | str j=>obtain⟨t',rfl⟩:=ry;exact PySem.EqMixed.ne_int_str (AK I q (by simp))
  | _=>exact bV (show false=true from hs) Ab3
 | str i=>
  obtain⟨t,rfl⟩:=rx;cases y with
  | bC=>cases ry;exact PySem.EqNone.ne_str_none (AK I q (by simp))
  | bl j=>cases ry;exact PySem.EqMixed.ne_str_bool (AK I q (by simp))
  | int j=>obtain⟨t',rfl⟩:=ry;exact PySem.EqMixed.ne_str_int (AK I q (by simp))
  | str j=>obtain⟨t',rfl⟩:=ry;exact ne_str (AK I q (congrArg not Oz))
  | _=>exact bV (show false=true from hs) Ab3
 | pq i=>
  obtain⟨t,rfl⟩:=rx;cases y with
  | pq j=>obtain⟨t',rfl⟩:=ry;exact PySem.W.ne_bytes (AK I q (congrArg not Oq))
  | _=>exact bV (show false=true from hs) Ab3
 | _=>cases y <;> exact bV (show false=true from hs) Ab3
theorem Ic:gf X (Ak3 .Lt) (qj λi j=> .bl (decide (i<j))):=Wr λ_ _ _ _ _ _ _ q=>lt_int q
theorem IK:gf X (Ak3 .LtE) (qj λi j=> .bl (decide (i<=j))):=Wr λ_ _ _ _ _ _ _ q=>le_int q
theorem CI:gf X (Ak3 .Gt) (qj λi j=> .bl (decide (j<i))):=Wr λ_ _ _ _ _ _ _ q=>gt_int q
theorem KB:gf X (Ak3 .In) (λx y H Q=>∃i j,x= .str i/\y= .str j/\Q (.bl (!(Ak0 j i 0 j.length 1).isEmpty)) H):=by
 intro bu s σ H x y v u Q I rx ry h;obtain⟨i,j,rfl,rfl,q⟩:=h;obtain⟨t,rfl⟩:=rx;obtain⟨t',rfl⟩:=ry;exact in_str (AK I q rfl)
theorem Fq:gf X (Ak3 .Is) (λx y H Q=>y= .bC/\Q (.bl (decide (x= .bC))) H):=by
 intro bu s σ H x y v u Q I rx ry h;obtain⟨rfl,q⟩:=h;cases ry;refine is_none_gen (AK I q ?_);cases x <;> first
  | (cases rx;rfl)
  | (obtain⟨t,rfl⟩:=rx;rfl)
theorem GI:gf X (Ak3 .IsNot) (λx y H Q=>y= .bC/\Q (.bl (!decide (x= .bC))) H):=by
 intro bu s σ H x y v u Q I rx ry h;obtain⟨rfl,q⟩:=h;cases ry;refine isnot_none_gen (AK I q ?_);cases x <;> first
  | (cases rx;rfl)
  | (obtain⟨t,rfl⟩:=rx;rfl)
theorem Hb:gf X (Ak3 .NotIn) (λx y H Q=>∃i j,x= .str i/\y= .str j/\Q (.bl (!(!(Ak0 j i 0 j.length 1).isEmpty))) H):=by
 intro bu s σ H x y v u Q I rx ry h;obtain⟨i,j,rfl,rfl,q⟩:=h;obtain⟨t,rfl⟩:=rx;obtain⟨t',rfl⟩:=ry;exact notIn_str (AK I q rfl)
theorem Ap(b:br)(h:op≠ .In:=by decide)(h2:op≠ .NotIn:=by decide):AG7 op b=false:=by
 have e1:(op == CmpOp.In)=false:=by cases op <;> first | rfl | exact bV rfl h
 have e2:(op == CmpOp.NotIn)=false:=by cases op <;> first | rfl | exact bV rfl h2
 cases b <;> simp[AG7,e1,e2]
theorem Bw(ho:gf X (Ak3 op) r)(ha:PE X a ta)(hb:PE X b tb)(hm:AG7 op b=false):PE X (.Compare a [op] [b] pos) (uf r ta tb):=by
 intro bu s σ H Q I h;exact wpAny_Compare1 (Wc ha hb I h λv u s2 x y H2 I2 rx ry q=>ho bu s2 σ H2 x y v u Q I2 rx ry q) hm
noncomputable def Rb(t:TE):TT:=λσ H Q=>t σ H λx H'=>∃k,x= .bl k/\Q k H'
theorem Ak(ho:gf X (Ak3 op) r)(ha:PE X a ta)(hb:PE X b tb)(hm:AG7 op b=false):PT X (.Compare a [op] [b] pos) (Rb (uf r ta tb)):=by
 intro bu s σ H Q I h;refine wpAny_isTrue_Compare1 (bZ (ha bu s σ H _ I h) λv s1 ⟨x,H1,I1,r1,q1⟩=>bZ (hb bu s1 σ H1 _ I1 q1) λu s2 ⟨y,H2,I2,r2,q2⟩=>
  bZ (ho bu s2 σ H2 x y v u _ I2 r1 r2 q2) λc s3 ⟨z,H3,I3,r3,k,e,q3⟩=>?_) hm
 subst e;cases r3;exact Ag4 ⟨H3,I3,q3⟩
noncomputable def NK(r r':R2)(ta tb tc:TE):TE:=λσ H Q=>ta σ H λx H1=>tb σ H1 λy H2=>r x y H2 λz H3=>∃k,z= .bl k/\
 (if k=true then tc σ H3 λw' H4=>r' y w' H4 Q else Q (.bl false) H3)
theorem Nm(ho:gf X (Ak3 op) r)(qy:gf X (Ak3 uh) r')(ha:PE X a ta)(hb:PE X b tb)(hc:PE X c tc)
  (hm:lastMarks [op,uh] [b,c]=false:=by with_unfolding_all rfl):PE X (.Compare a [op,uh] [b,c] pos) (NK r r' ta tb tc):=by
 intro bu s σ H Q I h;refine Compare_chain (bZ (ha bu s σ H _ I h) λv s1 ⟨x,H1,I1,r1,q1⟩=>chain_link (bZ (hb bu s1 σ H1 _ I1 q1) λu s2 ⟨y,H2,I2,r2,q2⟩=>
  bZ (ho bu s2 σ H2 x y v u _ I2 r1 r2 q2) λd s3 ⟨z,H3,I3,r3,k,e,q3⟩=>?_)) hm
 subst e;cases r3;refine Ag4 ?_;cases k with
 | false=>exact ite_ff ⟨.bl false,H3,I3,rfl,q3⟩
 | true=>exact ite_tt (chain_last (bZ (hc bu s3 σ H3 _ I3 q3) λw' s4 ⟨z',H4,I4,r4,q4⟩=>qy bu s4 σ H4 y z' u w' Q I4 r2 r4 q4))
theorem Qh(ho:gf X (Ak3 op) r)(qy:gf X (Ak3 uh) r')(ha:PE X a ta)(hb:PE X b tb)(hc:PE X c tc)
  (hm:lastMarks [op,uh] [b,c]=false:=by with_unfolding_all rfl):PT X (.Compare a [op,uh] [b,c] pos) (Rb (NK r r' ta tb tc)):=by
 intro bu s σ H Q I h;refine isTrue_chain (bZ (ha bu s σ H _ I h) λv s1 ⟨x,H1,I1,r1,q1⟩=>test_link (bZ (hb bu s1 σ H1 _ I1 q1) λu s2 ⟨y,H2,I2,r2,q2⟩=>
  bZ (ho bu s2 σ H2 x y v u _ I2 r1 r2 q2) λd s3 ⟨z,H3,I3,r3,k,e,q3⟩=>?_)) hm
 subst e;cases r3;refine Ag4 ?_;cases k with
 | false=>
  obtain⟨k',e',q'⟩:=q3;cases e';exact ite_ff ⟨H3,I3,q'⟩
 | true=>
  refine ite_tt (test_last (bZ (hc bu s3 σ H3 _ I3 q3) λw' s4 ⟨z',H4,I4,r4,q4⟩=>bZ (qy bu s4 σ H4 y z' u w' _ I4 r2 r4 q4) λd' s5 ⟨z2,H5,I5,r5,k2,e2,q5⟩=>?_));subst e2;cases r5;exact Ag4 ⟨H5,I5,q5⟩
theorem IN:(sizeLine:Nat)<2 ^ 63:=by rw[Aj9];decide
theorem JI:gf X (Ar2 .Add) (λx y H Q=>∃i j,x= .str i/\y= .str j/\i.length+j.length<=sizeLine/\Q (.str (i++j)) H):=by
 intro bu s σ H x y v u Q I rx ry h;obtain⟨i,j,rfl,rfl,hz,q⟩:=h;obtain⟨t,rfl⟩:=rx;obtain⟨t',rfl⟩:=ry;exact add_str (λt' tk=>⟨.str (i++j),H,I.tok _,⟨_,rfl⟩,q⟩) hz
theorem Fh(r:Vals [x] us):∃u,us=[u]/\RelV x u:=by
 cases r with
 | cons r1 r2=>cases r2;exact⟨_,rfl,r1⟩
theorem Ol(r:Vals [x,y] us):∃u w',us=[u,w']/\RelV x u/\RelV y w':=by
 cases r with
 | cons r1 r2=>
  cases r2 with
  | cons r3 r4=>cases r4;exact⟨_,_,rfl,r1,r3⟩
theorem PZ:BG X (.type "int") (λxs H Q=>(∃i,xs=[.int i]/\Q (.int i) H)\/∃k,xs=[.bl k]/\Q (.int (if k then 1 else 0)) H):=by
 intro bu s σ H xs us Q I r h;rcases h with ⟨i,rfl,q⟩ | ⟨k,rfl,q⟩
 .obtain⟨u,rfl,t,rfl⟩:=Fh r;exact call_int_int ⟨.int i,H,I,⟨_,rfl⟩,q⟩
 .obtain⟨u,rfl,r1⟩:=Fh r;cases r1;exact call_int_bool ⟨.int (if k then 1 else 0),H,I.tok _,⟨_,rfl⟩,q⟩
theorem L5:BG X (.type "str") (λxs H Q=>∃i,xs=[.int i]/\i.natAbs.log2<1920/\Q (.str (toString i)) H):=by
 intro bu s σ H xs us Q I r h;obtain⟨i,rfl,hz,q⟩:=h;obtain⟨u,rfl,t,rfl⟩:=Fh r;exact PySem.P.str_of_int hz ⟨.str _,H,I.tok _,⟨_,rfl⟩,q⟩
noncomputable def Xl(K:aU)(x:V)(H:Hp)(n:Nat):Prop:=
 match x with
 | .str y=>y.length<=sizeLine/\n=y.length
 | .pq y=>y.size<=sizeLine/\n=y.size
 | .ref p=>(∃xs,bx K H p xs/\n=xs.length)\/∃xs,dj K H p xs/\n=xs.length
 | _=>False
theorem Rl:BG X (.builtin "len") (λxs H Q=>∃x n,xs=[x]/\Xl X.K x H n/\Q (.int n) H):=by
 intro bu s σ H xs us Q I r h;obtain⟨x,n,rfl,e,q⟩:=h;obtain⟨u,rfl,rx⟩:=Fh r;have hl:=IN;have hs:sizeLine=16777216:=Aj9;cases x with
 | str y=>
  obtain⟨t,rfl⟩:=rx;obtain⟨hy,e'⟩:y.length<=sizeLine/\n=y.length:=e;subst e';exact len_str (by omega) ⟨.int _,H,I.tok _,⟨_,rfl⟩,q⟩
 | pq y=>
  obtain⟨t,rfl⟩:=rx;obtain⟨hy,e'⟩:y.size<=sizeLine/\n=y.size:=e;subst e';exact PySem.W.len_bytes (by omega) ⟨.int _,H,I.tok _,⟨_,rfl⟩,q⟩
 | ref p=>
  cases rx;have e':(∃xs,bx X.K H p xs/\n=xs.length)\/∃xs,dj X.K H p xs/\n=xs.length:=e;rcases e' with ⟨xs,hx,e'⟩ | ⟨xs,hx,e'⟩
  .subst e';obtain⟨its,r',pl,hz⟩:=I.list hx;have hlen:=r'.length;exact Calls.call_len_list pl.isList (by simp only[Ab6];omega) ⟨.int xs.length,H,I.tok _,⟨_,by simp only[Ab6];rw[hlen]⟩,q⟩
  .subst e';obtain⟨its,r',pl,hz⟩:=I.tuple hx;have hlen:=r'.length;exact len_tuple pl (by simp only[Ab6];omega) ⟨.int xs.length,H,I.tok _,⟨_,by simp only[Ab6];rw[hlen]⟩,q⟩
 | _=>exact(show False from e).elim
end
structure nY(h:Heap)(x dx C:Addr)(mA:Str->Option Value):Prop where
 obj:h.get? x=aS (An6 C dx)
 ns:h.Ns1 dx mA
 ne:dx≠x
theorem P7(n:h.Ns1 dx mA):∃od,h.get? dx=aS od/\∀name,AA0 name od=aS (mA name):=by
 obtain⟨o,es,ep,ho,hd,hk,_,hm⟩:=n;refine⟨o,ho,λname=>?_⟩;have e:=hm name;unfold nsFind findBy at e;rw[<-Array.find?_toList] at e;unfold AA0;rw[hd];dsimp only;split
 .rename_i y q
  rw[q] at e;exact congrArg aS e
 .rename_i q
  rw[q] at e;have a:es.toList.any (·.refKey)=false:=by
   rw[List.any_eq_false];intro y hy;obtain⟨z,t,aae⟩:=hk y (Array.mem_toList_iff.mp hy);simp[DictEntry.refKey,aae]
  have a':¬ es.toList.any (·.refKey)=true:=by rw[a];exact Ab3
  rw[bG a'];exact congrArg aS e
theorem nY.look(I:nY h x dx C mA):∃od,PySem.W.InstAt h x (An6 C dx) C (aS od)/\∀name,AA0 name od=aS (mA name):=
 let ⟨od,ho,hl⟩:=P7 I.ns
 ⟨od,⟨I.obj,rfl,rfl,ho⟩,hl⟩
section
variable {prog:Program}{E:Value->aT->Prop}{s:aT}{x dx f:Addr}{name:Str}{v:Value}
theorem Tw(X:K.In s.heap)(I:nY s.heap x dx C mA)(hg:Ax6 K C name=true)(hh:Aw4 K C=true)
  (ha:Aj4 K (.ref C) name=aS aV) (hv:mA name=aS v) (hv':PySem.W.handedIn v=true) (h:Q v { s with toks:=s.toks+1 }):
  aW (aX prog w) A (getAttr (.ref x) name expr) Q E s:=by
 obtain⟨od,J,hl⟩:=I.look;exact PySem.W.get_value X J (AB7 hg).1 (PySem.W.findObj_own hh ha rfl (by rw[hl,hv])) hv' h
theorem Sk{Q:Value×List Value->aT->Prop}(X:K.In s.heap)(I:nY s.heap x dx C mA)(hg:Ax6 K C name=true)
  (hf:Aj4 K (.ref C) name=aS (aS (.ref f))) (ht:AI1 K (.ref f)=true) (hv:mA name=aV) (h:Q (.ref f,[.ref x]) s):
  aW (aX prog w) A (getMethod (.ref x) name pl) Q E s:=by
 obtain⟨od,J,hl⟩:=I.look;exact PySem.W.method_fn X J (AB7 hg).1 (AB7 hg).2 hf (beq_iff_eq.mp ht) (by show (AA0 name od).map (·.isSome)=aS false;rw[hl,hv];rfl) h
theorem SS{ns:List Str}{Q:Unit->aT->Prop}(X:K.In s.heap)(I:nY s.heap x dx C mA)
  (hs:Aj4 K (.ref C) "__setattr__"=aS (aS (.builtin "object.__setattr__"))) (hp:PySem.W.plainOver K C=true) (ht:As1 K C name=aS aV) (hh:Aw4 K C=true)
  (hw:Av1 mA ns) (hsz:ns.length<=sizeLine)
  (h:∀h',nY h' x dx C (λy=>if y=name then aS v else mA y)->Ao8 dx s.heap h'->Q () { s with heap:=h',toks:=s.toks+2 }):
  aW (aX prog w) A (setAttr (.ref x) name v) Q E s:=by
 obtain⟨od,J,hl⟩:=I.look;refine PySem.W.set_plain X J hs (PySem.W.osa_open (s:={ s with toks:=s.toks+1 }) (r:=aV) X J hp ht λb=>?_);obtain⟨cd,hc,ua⟩:=AH0 hh;have hx:s.heap.get? x=aS ⟨.ref C,aS dx, .plain, #[]⟩:=I.obj;refine Aa1 (Ab2 (Aa1 (Aa1 (AE4 hx (Aa1 (Ao6 (s:={ s with toks:=s.toks+1 }) (AA1 X hc) ?_))))));rw[ua];refine Ab2 (a:=aS dx) (Aa1 (Ab2 (Aa1 ?_)));refine wpAny_nsSet1 (s:={ s with toks:=s.toks+1 }) I.ns λh' kJ lN=>?_;obtain⟨oD,esD,epD,xh,xj,xm⟩:=kJ.count (Au9 name v hw);refine Aa1 (wpAny_lookBehind xh (by rw[xj];exact pastItsLine_dict (Ab4 xm (by rw[Aa9];omega))) ?_);exact Ab2 (h _ ⟨(lN.2 _ (Ak9 I.ne)).trans I.obj,kJ,I.ne⟩ lN)
theorem RP{vs:List Value}(X:K.In s.heap)(hm:PySem.W.makesIn K C=true)
  (hi:Aj4 K (.ref C) "__init__"=aS (aS (.ref f))) (hf:PySem.W.typeIn K (.ref f)=aS (.type "function"))
  (h:An3 (aX prog w) (A.under (.builtin "type.__call__" ⟨.ref C::vs,kw⟩)) (.call (.ref f) ⟨.ref (s.heap.objs.size+1)::vs,kw⟩) (PySem.W.InitBack (s.heap.objs.size+1) R)
   { s with heap:=(s.heap.push Al9).push (An6 C s.heap.objs.size) }):
  An3 (aX prog w) A (.call (.ref C) ⟨vs,kw⟩) R s:=by
 obtain⟨hh,g,d,t,os⟩:=s;exact PySem.W.make_core (PySem.W.makes_of X hm) (Ao4 X hi) (λself=>PySem.W.bind_fn X self hf) (.inl rfl) h
end
noncomputable def A9(f:Str)(v:V):List (Str×V)->List (Str×V)
 | []=>[(f,v)]
 | (g,x)::r=>if g=f then (g,v)::r else (g,x)::A9 f v r
theorem E7(f g:Str)(v:V):∀fs:List (Str×V),(A9 f v fs).lookup g=if g=f then aS v else fs.lookup g
 | []=>by
  show Ai4 g [(f,v)]=_;by_cases h:g=f
  .have hb:(g == f)=true:=beq_iff_eq.mpr h;simp only[Ai4,hb,bS h]
  .have hb:(g == f)=false:=beq_eq_false_iff_ne.mpr h;simp only[Ai4,hb,bG h]
 | (k,x)::r=>by
  have ih:=E7 f g v r;rw[show A9 f v ((k,x)::r)=(if k=f then (k,v)::r else (k,x)::A9 f v r) from rfl];by_cases hk:k=f
  .rw[bS hk];by_cases h:g=k
   .have hb:(g == k)=true:=beq_iff_eq.mpr h;simp only[Ai4,hb,bS (h.trans hk)]
   .have hb:(g == k)=false:=beq_eq_false_iff_ne.mpr h;simp only[Ai4,hb,bG (λe:g=f=>h (e.trans hk.symm))]
  .rw[bG hk];by_cases h:g=k
   .have hb:(g == k)=true:=beq_iff_eq.mpr h;simp only[Ai4,hb,bG (λe:g=f=>hk (h.symm.trans e))]
   .have hb:(g == k)=false:=beq_eq_false_iff_ne.mpr h;simp only[Ai4,hb];exact ih
theorem DU(f:Str)(v:V):∀fs:List (Str×V),f∈(A9 f v fs).map (·.1)/\∀g,g∈fs.map (·.1)->g∈(A9 f v fs).map (·.1)
 | []=>⟨by simp[A9],λg h=>by simp at h⟩
 | (k,x)::r=>by
  obtain⟨i1,i2⟩:=DU f v r;rw[show A9 f v ((k,x)::r)=(if k=f then (k,v)::r else (k,x)::A9 f v r) from rfl];by_cases hk:k=f
  .rw[bS hk];subst hk;exact⟨by simp,λg h=>by simpa using h⟩
  .rw[bG hk];refine⟨?_,λg h=>?_⟩
   .rw[Ac3];exact Aa8 _ i1
   .rw[Ac3] at h ⊢;rcases Aa7.mp h with e | e
    .exact Aa7.mpr (.inl e)
    .exact Aa8 _ (i2 g e)
theorem HS(f:Str)(v:V):∀fs:List (Str×V),(A9 f v fs).length<=fs.length+1
 | []=>by simp[A9]
 | (k,x)::r=>by
  have ih:=HS f v r;rw[show A9 f v ((k,x)::r)=(if k=f then (k,v)::r else (k,x)::A9 f v r) from rfl];by_cases hk:k=f
  .rw[bS hk,Aa9,Aa9];omega
  .rw[bG hk,Aa9,Aa9];omega
theorem fq.some_of{o:Option Value}(r:fq (aS v) o):∃u,o=aS u/\RelV v u:=by
 cases o with
 | none=>exact(show False from r).elim
 | some u=>exact⟨u,rfl,r⟩
theorem fq.none_of{o:Option Value}(r:fq aV o):o=none:=by
 cases o with
 | none=>rfl
 | some u=>exact(show False from r).elim
theorem HF(r:RelV v u):PySem.W.handedIn u=true:=by
 cases v with
 | bC=>cases (show u=Aj8 from r);rfl
 | bl b=>cases (show u=Ar6 b from r);rfl
 | int i=>obtain⟨t,e⟩:=(show ∃t,u=Av8 i t from r);cases e;rfl
 | str x=>obtain⟨t,e⟩:=(show ∃t,u=Ay3 x t from r);cases e;rfl
 | pq b=>obtain⟨t,e⟩:=(show ∃t,u=Value.bytes b t from r);cases e;rfl
 | sR b=>obtain⟨t,e⟩:=(show ∃t,u=AG6 b t from r);cases e;rfl
 | ref a=>cases (show u=aY a from r);rfl
 | ty n=>cases (show u=Ap8 n from r);rfl
section
variable {H':Hp}{h':Heap}{a dx:Addr}{fs vL:List (Str×V)}
theorem GS(bO:fM P w H h)(e:H a=aS (.ins C dx fs)):∃mA,nY h a dx C mA/\(∀f,fq (fs.lookup f) (mA f))/\Av1 mA (fs.map (·.1))/\fs.length<=1000/\H dx=aS (.own a):=by
 obtain⟨d,z,ne,ob,mA,n,r,q⟩:=(show bK P w H h a (.ins C dx fs) from bO a _ e);exact⟨mA,⟨ob,n,ne⟩,r,q,z,d⟩
end
structure nZ(K:aU)(C:Addr):Prop where
 pg:Ax6 K C Ar0=true
 hd:Aw4 K C=true
 po:PySem.W.plainOver K C=true
 sa:Aj4 K (.ref C) "__setattr__"=aS (aS (.builtin "object.__setattr__"))
theorem nZ.get(c:nZ K C)(f:Str):Ax6 K C f=true:=c.pg
noncomputable def cU(K:aU)(C:Addr)(f:Str):Prop:=Aj4 K (.ref C) f=aS aV
theorem cU.xo(n:cU K C f):As1 K C f=aS none:=by
 unfold As1;rw[show Aj4 K (.ref C) f=aS aV from n];rfl
structure Meth(K:aU)(C:Addr)(m:Str)(f:Addr):Prop where
 at_:Aj4 K (.ref C) m=aS (aS (.ref f))
 fn:AI1 K (.ref f)=true
 kp:Ak7 K (.ref f)=true
section
variable {s:aT}{a dx:Addr}{fs:List (Str×V)}{f:Str}{v:V}{E:Value->aT->Prop}
theorem NS(I:Inv X bu σ H s)(e:H a=aS (.ins C dx fs))(c:nZ X.K C)(n:cU X.K C f)(l:fs.lookup f=aS v)
  (h:∀u s',Inv X bu σ H s'->RelV v u->Q u s'):aW (aX X.prog X.w) A (getAttr (.ref a) f b) Q E s:=by
 obtain⟨mA,O,r,_,_,_⟩:=GS I.bO e;obtain⟨u,hu,ru⟩:=fq.some_of (v:=v) (o:=mA f) (by rw[<-l];exact r f);exact Tw I.dG O (c.get f) c.hd n hu (HF ru) (h u _ (I.tok _) ru)
theorem N9{Q:Value×List Value->aT->Prop}(I:Inv X bu σ H s)(e:H a=aS (.ins C dx fs))(c:nZ X.K C)(k:Meth X.K C m g)(l:fs.lookup m=aV)
  (h:Q (.ref g,[.ref a]) s):aW (aX X.prog X.w) A (getMethod (.ref a) m pl) Q E s:=by
 obtain⟨mA,O,r,_,_,_⟩:=GS I.bO e;have hn:mA m=none:=fq.none_of (by rw[<-l];exact r m);exact Sk I.dG O (c.get m) k.at_ k.fn hn h
theorem NV{Q:Unit->aT->Prop}(I:Inv X bu σ H s)(e:H a=aS (.ins C dx fs))(c:nZ X.K C)(n:cU X.K C f)(hl:fs.length<1000)(ry:RelV y u)
  (h:∀s',Inv X bu σ (upd H a (.ins C dx (A9 f y fs))) s'->Q () s'):aW (aX X.prog X.w) A (setAttr (.ref a) f u) Q E s:=by
 obtain⟨mA,O,r,wi,_,ho⟩:=GS I.bO e;have hz:(fs.map (·.1)).length<=sizeLine:=by rw[Aa0,Aj9];omega
 refine SS I.dG O c.sa c.po n.xo c.hd wi hz λh' O' sb=>h _ ?_;have hd:∃o,h'.get? dx=aS o:=let ⟨o,_,_,e',_⟩:=O'.ns;⟨o,e'⟩;refine I.write (x:=a) (e:=dx) (by rw[e];exact Ak5) (.inr ho) (λb q hb z=>(sb.2 b hb).trans z) hd ?_;refine⟨by rw[An O.ne];exact ho,?_,O.ne,O'.obj,_,O'.ns,λg=>?_,λg hg=>?_⟩
 .have:=HS f y fs;omega
 .show fq ((A9 f y fs).lookup g) (if g=f then aS u else mA g);rw[E7];by_cases q:g=f
  .rw[bS q,bS q];exact ry
  .rw[bG q,bG q];exact r g
 .by_cases q:g=f
  .rw[q];exact(DU f y fs).1
  .refine(DU f y fs).2 g (wi g λz=>hg ?_);show (if g=f then aS u else mA g)=aV;rw[bG q];exact z
theorem Inv.made(I:Inv X bu σ H s):Inv X bu σ (upd (upd H s.heap.objs.size (.own (s.heap.objs.size+1))) (s.heap.objs.size+1) (.ins C s.heap.objs.size []))
  { s with heap:=(s.heap.push Al9).push (An6 C s.heap.objs.size) }:=by
 have e1:(s.heap.push Al9).get? s.heap.objs.size=aS Al9:=Ab9 s.heap rfl;have e2:((s.heap.push Al9).push (An6 C s.heap.objs.size)).get? (s.heap.objs.size+1)=aS (An6 C s.heap.objs.size):=by
  have:=Ab9 (s.heap.push Al9) (o:=An6 C s.heap.objs.size) rfl
  rwa [Ai5] at this
 have e3:(s.heap.push Al9).Ns s.heap.objs.size (λ_=>aV):=⟨Al9, #[],_,e1,rfl,(λe he=>bV he (by simp)),λ_=>rfl⟩;have I1:=I.laid (a:=s.heap.objs.size) (o:= .own (s.heap.objs.size+1)) (h':=s.heap.push Al9) (t':=s.toks) (λb u q=>Aa4 _ q) (Aa6 _) ⟨_,e1⟩;refine I1.laid (a:=s.heap.objs.size+1) (o:= .ins C s.heap.objs.size []) (t':=s.toks) (λb u q=>Aa4 _ q) (AG0 (Ai5 _ _)) ?_;have ne:s.heap.objs.size≠s.heap.objs.size+1:=Ac8 (AH1 _);refine⟨by rw[An ne,upd_same],Ad4 _,ne,e2,λ_=>aV,(Heap.Ns1.of_empty e3).at λo q=>Aa4 _ q,λ_=>Ak5,λy hy=>bV rfl hy⟩
theorem Lo(hb:Ao5 e f env (bh e env)=bh e env)
  (h:aW (aX prog w) A (bh e env) (λo s₁=>aW (aX prog w) A (getAttr o f true) Q E s₁) E s):aW (aX prog w) A (bh (.Attribute e f pos) env) Q E s:=
 Attribute_any_ h (by rw[arm_eval_Attribute,hb])
end
noncomputable def Wf(K:aU)(ta:TE)(f:Str):TE:=λσ H Q=>ta σ H λx H1=>∃a C dx fs v,x= .ref a/\H1 a=aS (.ins C dx fs)/\nZ K C/\cU K C f/\fs.lookup f=aS v/\Q v H1
noncomputable def WO(K:aU)(ta tv:TE)(f:Str):TS:=λD σ H=>tv σ H λy H1=>ta σ H1 λx H2=>∃a C dx fs,x= .ref a/\H2 a=aS (.ins C dx fs)/\nZ K C/\cU K C f/\fs.length<1000/\
 D.nx σ (upd H2 a (.ins C dx (A9 f y fs)))
section
variable {value:br}{f:Str}{pos' oh:Pos}{tv:TE}
theorem Va(he:PE X e ta)(hb:Ao5 e f X.env (bh e X.env)=bh e X.env):PE X (.Attribute e f pos) (Wf X.K ta f):=by
 intro bu s σ H Q I h;refine Lo hb (bZ (he bu s σ H _ I h) λu s1 ⟨x,H1,I1,rx,a,C,dx,fs,v,ex,ea,c,n,l,q⟩=>?_);subst ex;obtain rfl:u=aY a:=rx;exact NS I1 ea c n l λu' s2 I2 ru=>⟨v,H1,I2,ru,q⟩
theorem Gw(ha:PE X o ta)(hv:PE X value tv)(hs:Av3 value (aS (.Attribute o f pos')) pos.line X.env=pure false):PS X (.Assign [.Attribute o f pos'] value pos) (WO X.K ta tv f):=by
 intro bu s σ H D I h;refine AI4 (bZ (hv bu s σ H _ I h) λu s1 ⟨y,H1,I1,ry,q⟩=>bZ (ha bu s1 σ H1 _ I1 q) λov s2 ⟨x,H2,I2,rx,a,C,dx,fs,ex,ea,c,n,l,q2⟩=>?_) hs;subst ex;obtain rfl:ov=aY a:=rx;exact NV I2 ea c n l ry λs3 I3=>⟨σ,_,I3,q2⟩
end
section
variable {s:aT}{E:Value->aT->Prop}{c:Value}{b:Bool}
inductive fB(K:aU)(H:Hp):V->Value->Prop where
 | bC:fB K H .bC (.type "NoneType")
 | bl (x:Bool):fB K H (.bl x) (.type "bool")
 | int (i:Int):fB K H (.int i) (.type "int")
 | str (x:Str):fB K H (.str x) (.type "str")
 | sR (x:UInt64):fB K H (.sR x) (.type "float")
 | lst {a:Addr} {xs:List V} (e:H a=aS (.lst xs)):fB K H (.ref a) (.type "list")
 | mG {a:Addr} {o:Obj} {xs:List V} (e:H a=aS (.mG o (.lst xs))):fB K H (.ref a) (.type "list")
 | tup {a:Addr} {xs:List V} (e:H a=aS (.tup xs)):fB K H (.ref a) (.type "tuple")
 | dK {a:Addr} {bN:List (Key×V)} (e:H a=aS (.dK bN)):fB K H (.ref a) (.type "dict")
 | dT {a:Addr} {bN:List (List Key×V)} (e:H a=aS (.dT bN)):fB K H (.ref a) (.type "dict")
 | ins {a C dx:Addr} {fs:List (Str×V)} (e:H a=aS (.ins C dx fs)) (cl:nZ K C) (ha:Aj4 K (.ref C) "__class__"=aS (aS (.builtin "object.__class__")))
  (hn:Ax2 K (.builtin "object.__class__") "__get__"=aS (aS (.builtin "getset_descriptor.__get__"))) (uo:AD2 K (.builtin "object.__class__")=aS true)
  (hm:Aw5 K C (.type "object")=aS true):fB K H (.ref a) (.ref C)
theorem KQ(I:Inv X bu σ H s)(rx:RelV x u)(ty:fB X.K H x t)(e:Ai6 X.K t c=aS b)(h:∀tk,Q (.bool b) { s with toks:=tk }):
  aW (aX X.prog X.w) A (call (.builtin "isinstance") [u,c]) Q E s:=by
 cases ty with
 | bC=>cases (show u=Aj8 from rx);exact Al0 PySem.W.kitx_none I.dG Ak5 e (λz=>nomatch z) h
 | bl y=>cases (show u=Ar6 y from rx);exact Al0 PySem.W.kitx_bool I.dG Ak5 e (λz=>nomatch z) h
 | int i=>obtain⟨t,q⟩:=(show ∃t,u=Av8 i t from rx);cases q;exact Al0 PySem.W.kitx_int I.dG Ak5 e (λz=>nomatch z) h
 | str y=>obtain⟨t,q⟩:=(show ∃t,u=Ay3 y t from rx);cases q;exact Al0 PySem.W.kitx_str I.dG Ak5 e (λz=>nomatch z) h
 | sR y=>obtain⟨t,q⟩:=(show ∃t,u=AG6 y t from rx);cases q;exact Al0 PySem.W.kitx_float I.dG Ak5 e (λz=>nomatch z) h
 | @lst a xs ea=>
  cases (show u=aY a from rx);obtain⟨_,_,n,_,h1⟩:=(show bK X.prog X.w H s.heap a (.lst xs) from I.bO a _ ea);exact Al0 Aw6 I.dG ⟨_,h1,rfl⟩ e (λz=>nomatch z) h
 | @mG a ob xs ea=>
  cases (show u=aY a from rx);obtain⟨_,_,_,n,_,h1⟩:=(show bK X.prog X.w H s.heap a (.mG ob (.lst xs)) from I.bO a _ ea);exact Al0 Aw6 I.dG ⟨_,h1,rfl⟩ e (λz=>nomatch z) h
 | @tup a xs ea=>
  cases (show u=aY a from rx);obtain⟨_,_,_,p⟩:=(show bK X.prog X.w H s.heap a (.tup xs) from I.bO a _ ea);obtain⟨o,h1,h2,_⟩:=p;exact Al0 PySem.W.kitx_tuple I.dG ⟨o,h1,h2⟩ e (λz=>nomatch z) h
 | @dK a bN ea=>
  cases (show u=aY a from rx);obtain⟨_,_,vs,_,p⟩:=(show bK X.prog X.w H s.heap a (.dK bN) from I.bO a _ ea);obtain⟨o,es,ep,h1,h2,_⟩:=p;exact Al0 Aw7 I.dG ⟨o,h1,h2.1⟩ e (λz=>nomatch z) h
 | @dT a bN ea=>
  cases (show u=aY a from rx);obtain⟨_,_,xs,_,o,es,ep,h1,h2,_⟩:=(show bK X.prog X.w H s.heap a (.dT bN) from I.bO a _ ea);exact Al0 Aw7 I.dG ⟨o,h1,h2.1⟩ e (λz=>nomatch z) h
 | @ins a C dx fs ea cl ha hn uo hm=>
  cases (show u=aY a from rx);obtain⟨mA,O,_⟩:=GS I.bO ea;obtain⟨od,J,_⟩:=O.look;exact Al0 (PySem.W.kitx_own (cl.get _) cl.hd ha hn uo hm) I.dG J e (λz=>nomatch z) h
end
structure cJ(k:Nat)(A:An2):Prop where
 hd:A.handled=aV
 dp:A.depth+3*k+5<recursionLimit
 un:A.units+16*k+200<cLine
theorem cJ.mono(r:cJ k A)(h:j<=k):cJ j A:=⟨r.hd,by have:=r.dp;omega,by have:=r.un;omega⟩
theorem cJ.mo(r:cJ k A)(h:j<=k:=by decide):cJ j A:=r.mono h
theorem cJ.deeper(r:cJ (k+1) A)(env:Env):cJ k (A.deeper env):=
 ⟨r.hd,by have:=r.dp;show A.depth+1+3*k+5<_;omega,by have:=r.un;show A.units+3+16*k+200<_;omega⟩
theorem IZ:(A.under (.builtin "type.__call__" ⟨.ref C::us,kw⟩)).depth=A.depth+1:=by
 first | rfl | simp[Around.under,Code.weight,Code.isCreation,Code.isGuard,Code.isCaller,Code.frames,Code.isFrame,guardIds]
theorem IP:(A.under (.builtin "type.__call__" ⟨.ref C::us,kw⟩)).units=A.units+1:=by
 first | rfl | simp[Around.under,Code.cUnits,Code.frames,Code.isFrame]
theorem cJ.make(r:cJ (k+1) A)(C:Addr)(us:List Value)(kw:List (Str×Value)):cJ k (A.under (.builtin "type.__call__" ⟨.ref C::us,kw⟩)):=
 ⟨r.hd,by have:=r.dp;rw[IZ];omega,by have:=r.un;rw[IP];omega⟩
theorem cJ.depth(r:cJ k A):A.depth<recursionLimit:=by have:=r.dp;omega
theorem cJ.units(r:cJ k A):A.units+64<cLine:=by have:=r.un;omega
theorem cJ.cC(r:cJ k A):A.units<cLine:=by have:=r.un;omega
noncomputable def MC:TA:=λ_ H Q=>Q [] H
noncomputable def Ia(ta:TE)(tr:TA):TA:=λσ H Q=>ta σ H λx H1=>tr σ H1 λxs H2=>Q (x::xs) H2
section
variable {t:TA}
theorem Ab:PA X [] MC:=λ_ _ _ _ H Q I h=>Calls.spliced_nil ⟨[],H,I, .nil,h⟩
theorem Aa(ha:PE X e te)(hr:PA X es t)(hs:aZ (e::es) X.env=(false,bh e X.env)::aZ es X.env:=by rfl):PA X (e::es) (Ia te t):=by
 intro pos bu s σ H Q I h;rw[hs];show aW _ _ (spliced ((false,bh e X.env)::An9 pos (aZ es X.env))) _ _ s;refine Ar7 (bZ (ha bu s σ H _ I h) λu s1 ⟨x,H1,I1,r1,q1⟩=>?_);exact bZ (hr pos bu s1 σ H1 _ I1 q1) λus s2 ⟨xs,H2,I2,r2,q2⟩=>⟨x::xs,H2,I2, .cons r1 r2,q2⟩
noncomputable def W1(t:TA):TE:=λσ H Q=>t σ H λxs H1=>xs.length<=sizeLine/\∀p,H1 p=aV->Q (.ref p) (upd H1 p (.tup xs))
noncomputable def Xx(t:TA):TE:=λσ H Q=>t σ H λxs H1=>xs.length<=sizeLine/\∀p,H1 p=aV->Q (.ref p) (upd H1 p (.lst xs))
theorem AY{x1}(h:PA X es t):PE X (.Tuple es x1 pos) (W1 t):=by
 intro bu s σ H Q I hq;refine wpAny_Tuple_spliced (bZ (h pos bu s σ H _ I hq) λus s1 ⟨xs,H1,I1,r,z,q⟩=>⟨by rw[<-r.length];exact z,?_⟩);have hf:H1 s1.heap.objs.size=none:=I1.bO.fresh (Aa6 _);refine⟨.ref s1.heap.objs.size,upd H1 s1.heap.objs.size (.tup xs),I1.laid (t':=s1.toks) (λb u e=>Aa4 _ e) (Aa6 _) ?_,rfl,q _ hf⟩;exact⟨z,us,r,⟨_,Ab9 _ rfl,rfl,_,rfl⟩⟩
theorem As(h:PA X es t):PE X (.List es pos) (Xx t):=by
 intro bu s σ H Q I hq;refine wpAny_List_spliced (bZ (h pos bu s σ H _ I hq) λus s1 ⟨xs,H1,I1,r,z,q⟩=>⟨by rw[<-r.length];exact z,?_⟩);have hf:H1 s1.heap.objs.size=none:=I1.bO.fresh (Aa6 _);refine⟨.ref s1.heap.objs.size,upd H1 s1.heap.objs.size (.lst xs),I1.laid (t':=s1.toks) (λb u e=>Aa4 _ e) (Aa6 _) ?_,rfl,q _ hf⟩;exact⟨z,us,0,r,Ab9 _ rfl⟩
end
noncomputable abbrev Sp:=List V->Hp->VK->XK->Prop
noncomputable abbrev qB:=List Env->Hp->aT->XK->Value->aT->Prop
structure jf(P:Program)(w:bg)(K:aU)(mg:Str->Option Value)(base:Heap)(A:An2)(bw:List Env)(s:aT)(H:Hp):Prop where
 frames:A.frames=aS bw
 mod:Mod K mg base
 bs:∀b o,base.get? b=aS o->s.heap.get? b=aS o/\H b=aV
 mH:base.objs.size<=s.heap.objs.size
 fO:s.heap.FunFrames base bw
 pB:∀b∈cA bw,H b=aV
 bO:fM P w H s.heap
 bare:Av9 s.gens
noncomputable def CE(bw:List Env)(P:Program)(w:bg)(H:Hp)(s:aT)(Q:VK)(u:Value)(s':aT):Prop:=
 ∃v H',s'.os=s.os/\Av9 s'.gens/\Un (cA bw) [] H H' s.heap s'.heap/\fM P w H' s'.heap/\RelV v u/\Q v H'
noncomputable def CR(CX:qB)(bw:List Env)(P:Program)(w:bg)(H:Hp)(s:aT)(Q:VK)(E:XK)(r:Result)(s':aT):Prop:=
 match r with
 | .ok (.ret u)=>CE bw P w H s Q u s'
 | .ok _=>False
 | .error e=>CX bw H s E e s'
structure bQ(P:Program)(w:bg)(K:aU)(mg:Str->Option Value)(base:Heap)(CX:qB)(k:Nat)(f:Addr)(fd:Am7)(ps:List Str)(sp:Sp):Prop where
 len:∀vs H Q E,sp vs H Q E->vs.length=ps.length
 run:∀(A:An2) (bw:List Env) (s:aT) (H:Hp) (args:Args) (us:List Value) (vs:List V) (Q:VK) (E:XK),cJ k A->jf P w K mg base A bw s H->AF2 s fd args (ps.zip us)->Vals vs us->sp vs H Q E->
  An3 (aX P w) A (.call (.ref f) args) (CR CX bw P w H s Q E) s
theorem jf.make(e:jf P w K mg base A bw s H)(C:Addr)(us:List Value)(kw:List (Str×Value)):
 jf P w K mg base (A.under (.builtin "type.__call__" ⟨.ref C::us,kw⟩)) bw s H:=⟨by first | exact e.frames | (simpa [Around.under,Code.envs,Code.isFrame,pushEnvs] using e.frames),e.mod,e.bs,e.mH,e.fO,e.pB,e.bO,e.bare⟩
section
variable {s s':aT}
theorem Inv.oj(I:Inv X bu σ H s):jf X.prog X.w X.K X.mg X.base X.A X.stack s H:=
 ⟨I.ok.frames,I.ok.mod,I.bs,Ab4 I.ok.mH I.sz,I.stack,I.dc,I.bO,I.bare⟩
theorem Inv.after{Q:VK}(I:Inv X bu σ H s)(h:CE X.stack X.prog X.w H s Q u s'):EP X bu σ Q u s':=by
 obtain⟨v,H',os,bare,un,bO,r,q⟩:=h;obtain⟨hh,g,d,t,os'⟩:=s';obtain rfl:os'=s.os:=os;exact⟨v,H',I.call (h':=hh) (g':=g) (d':=d) (t':=t) (ch:=[]) un bO bare (λb z=>bV z (by simp)),r,q⟩
end
noncomputable def MP(sp:Sp)(lO:List V)(E:XK)(t:TA):TE:=λσ H Q=>t σ H λvs H1=>sp (vs++lO) H1 Q E
noncomputable def Oo(C:Addr)(m:Str)(sp:Sp)(lO:List V)(E:XK)(ta:TE)(t:TA):TE:=λσ H Q=>ta σ H λx H1=>∃a dx fs,x= .ref a/\H1 a=aS (.ins C dx fs)/\fs.lookup m=aV/\
 t σ H1 λvs H2=>sp (x::(vs++lO)) H2 Q E
noncomputable def Oj(C:Addr)(sp:Sp)(lO:List V)(E:XK)(t:TA):TE:=λσ H Q=>t σ H λvs H1=>∀x dx,H1 x=aV->H1 dx=aV->dx≠x->
 sp (.ref x::(vs++lO)) (upd (upd H1 dx (.own x)) x (.ins C dx [])) (λv H2=>v= .bC/\Q (.ref x) H2) E
noncomputable def Binds(K:aU)(fd:Am7)(ps:List Str)(ds:List Value):Prop:=
 ∀(s:aT) (us:List Value),K.In s.heap->(us++ds).length=ps.length->AF2 s fd ⟨us,[]⟩ (ps.zip (us++ds))
theorem Binds.all(h:∀us:List Value,us.length=ps.length->bindArgs fd ⟨us,[]⟩=pure (ps.zip us)):Binds K fd ps []:=λs us _ hl=>by
 rw[Ap1] at hl ⊢;exact .of_eq (h us hl)
noncomputable def Ci(CX:qB)(X:Cx)(E:XK):Prop:=∀(bu:List (Addr×Obj)) (σ:St) (H:Hp) (s:aT) (e:Value) (s':aT),Inv X bu σ H s->CX X.stack H s E e s'->X.xe e s'
section
variable {CX:qB}{k:Nat}{f:Addr}{sp:Sp}{lO:List V}{ds:List Value}{E:XK}{x m:Str}{apos:Pos}{t:TA}
theorem Q0{Q:VK}(F:bQ X.prog X.w X.K X.mg X.base CX k f fd ps sp)(hr:cJ k X.A)(hb:Binds X.K fd ps ds)(hd:Vals lO ds)(hx:Ci CX X E)
  (I:Inv X bu σ H s) (r:Vals vs us) (h:sp (vs++lO) H Q E):aW (aX X.prog X.w) X.A (call (.ref f) us) (EP X bu σ Q) X.xe s:=by
 have r2:Vals (vs++lO) (us++ds):=r.append hd;have hl:(us++ds).length=ps.length:=by rw[<-r2.length];exact F.len _ _ _ _ h
 refine Ah2 (Ao3 (F.run X.A X.stack s H ⟨us,[]⟩ (us++ds) (vs++lO) Q E hr I.oj (hb s us I.dG hl) r2 h) λr s' hq=>?_);cases r with
 | error e=>exact hx bu σ H s e s' I hq
 | ok fl=>
  cases fl with
  | ret u=>exact I.after hq
  | next=>exact Aj2 hq
  | brk=>exact Aj2 hq
  | cont=>exact Aj2 hq
theorem O7(F:bQ X.prog X.w X.K X.mg X.base CX k f fd ps sp)(hr:cJ k X.A)(hg:Gl X x)(hm:X.mg x=aS (.ref f))(hk:Ak7 X.K (.ref f)=true)(hb:Binds X.K fd ps ds)(hd:Vals lO ds)(hx:Ci CX X E)
  (ha:PA X (e::es) t) (om:(x == ("__debug__":Str))=false:=by decide) (he:aZ (e::es) X.env=(false,bh e X.env)::aZ es X.env:=by rfl) (kr:(An9 pos (aZ es X.env)).any (·.1)=false:=by rfl):
  PE X (.Call (.Name x p) (e::es) [] pos) (MP sp lO E t):=by
 intro bu s σ H Q I h;refine Af4 (DE I hg hm ?_ om);refine An4 (h₀:=X.base) I.ok.mod.pA hk (bZ (ha pos bu s σ H _ I h) λus s1 ⟨vs,H1,I1,r,q⟩=>⟨I1.dG,?_⟩) he kr;exact Q0 F hr hb hd hx I1 r q
theorem Qp(he:PE X o ta)(c:nZ X.K C)(hm:Meth X.K C m f)(F:bQ X.prog X.w X.K X.mg X.base CX k f fd ps sp)(hr:cJ k X.A)(hb:Binds X.K fd ps ds)(hd:Vals lO ds)(hx:Ci CX X E)
  (ht:bh (.Call (.Attribute o m apos) [] [] pos) X.env=(do
   let ov <-bh o X.env
   standAt apos.atName
   let (f,first) <-Ax4 [ov] (getMethod ov m pl)
   callWith pos f first (An9 pos (aZ [] X.env)) (backToKw pos (Az4 [] X.env))):=by rfl):
  PE X (.Call (.Attribute o m apos) [] [] pos) (Oo C m sp lO E ta MC):=by
 intro bu s σ H Q I h;refine PySem.W.methodCall_KW (pl:=pl) (bZ (he bu s σ H _ I h) λu s1 ⟨x,H1,I1,rx,a,dx,fs,ex,ea,l,q⟩=>?_) ht;subst ex;obtain rfl:u=aY a:=rx;refine N9 I1 ea c hm l ?_;exact PySem.W.callWith_K0 (first:=[.ref a]) I1.dG hm.kp (Q0 (us:=[.ref a]) (vs:=[.ref a]) F hr hb hd hx I1 (.cons rfl .nil) q)
structure Mk(K:aU)(C f:Addr):Prop where
 makes:PySem.W.makesIn K C=true
 init:Aj4 K (.ref C) "__init__"=aS (aS (.ref f))
 fn:AI1 K (.ref f)=true
 kp:Ak7 K (.ref C)=true
theorem Qs{Q:VK}(M:Mk X.K C f)(F:bQ X.prog X.w X.K X.mg X.base CX k f fd ps sp)(hr:cJ (k+1) X.A)(hb:Binds X.K fd ps ds)(hd:Vals lO ds)
  (hx:Ci CX X E) (I:Inv X bu σ H s) (r:Vals vs us)
  (h:∀x dx,H x=aV->H dx=aV->dx≠x->sp (.ref x::(vs++lO)) (upd (upd H dx (.own x)) x (.ins C dx [])) (λv H2=>v= .bC/\Q (.ref x) H2) E):
  aW (aX X.prog X.w) X.A (call (.ref C) us) (EP X bu σ Q) X.xe s:=by
 have hq:=h (s.heap.objs.size+1) s.heap.objs.size (I.bO.fresh (Ag5 _)) (I.bO.fresh (Aa6 _)) (Ac8 (AH1 _));have I2:=Inv.made (C:=C) I;have r2:Vals (V.ref (s.heap.objs.size+1)::(vs++lO)) (aY (s.heap.objs.size+1)::(us++ds)):= .cons rfl (r.append hd);have hl:(aY (s.heap.objs.size+1)::us++ds).length=ps.length:=by
  have e:=r2.length;rw[F.len _ _ _ _ hq] at e;exact e.symm
 refine Ah2 (RP (f:=f) I.dG M.makes M.init (beq_iff_eq.mp M.fn) (Ao3 (F.run _ X.stack _ _ ⟨aY (s.heap.objs.size+1)::us,[]⟩ (aY (s.heap.objs.size+1)::(us++ds)) _ _ E (hr.make C us [])
  (I2.oj.make C us []) (hb _ (aY (s.heap.objs.size+1)::us) I2.dG hl) r2 hq) λr s' mJ=>?_))
 cases r with
 | error e=>exact hx bu σ _ _ e s' I2 mJ
 | ok fl=>
  cases fl with
  | ret u=>
   obtain⟨v,H',I3,rv,ev,q3⟩:=I2.after mJ;subst ev;exact⟨rv,⟨V.ref (s.heap.objs.size+1),H',I3,rfl,q3⟩⟩
  | next=>exact Aj2 mJ
  | brk=>exact Aj2 mJ
  | cont=>exact Aj2 mJ
theorem Th(M:Mk X.K C f)(F:bQ X.prog X.w X.K X.mg X.base CX k f fd ps sp)(hr:cJ (k+1) X.A)(hg:Gl X x)(hm:X.mg x=aS (.ref C))(hb:Binds X.K fd ps ds)(hd:Vals lO ds)(hx:Ci CX X E)
  (ha:PA X (e::es) t) (om:(x == ("__debug__":Str))=false:=by decide) (he:aZ (e::es) X.env=(false,bh e X.env)::aZ es X.env:=by rfl) (kr:(An9 pos (aZ es X.env)).any (·.1)=false:=by rfl):
  PE X (.Call (.Name x p) (e::es) [] pos) (Oj C sp lO E t):=by
 intro bu s σ H Q I h;refine Af4 (DE I hg hm ?_ om);refine An4 (h₀:=X.base) I.ok.mod.pA M.kp (bZ (ha pos bu s σ H _ I h) λus s1 ⟨vs,H1,I1,r,q⟩=>⟨I1.dG,?_⟩) he kr;exact Qs M F hr hb hd hx I1 r q
end
structure bz(N P:List Str)(sc:Scope):Prop where
 kind:sc.kind= .function
 co:sc.isCoroutine=false
 gen:sc.isGenerator=false
 nd:N.Nodup
 pre:N.take P.length=P
 par:∀x∈P,sc.names.lookup x=aS .local\/sc.names.lookup x=aS .cell
 uq:∀y∈sc.names,y.2≠ .free
theorem KW{kindOf:Str->Option Al1}{x:Str}:∀{binds:List (Str×Value)} {m:Str->Option Value},(∀v,(x,v)∉binds)->bindL kindOf binds m x=m x
 | [],_,_=>rfl
 | (n,v)::r,m,h=>by
  unfold bindL;rw[KW λw hw=>h w (Aa8 _ hw)];split
  .have:x≠n:=by rintro rfl;exact h v Ab0
   simp[this]
  .rfl
theorem KZ{kindOf:Str->Option Al1}{x:Str}:∀{binds:List (Str×Value)} {m:Str->Option Value},(∀v,(x,v)∉binds)->bindC kindOf binds m x=m x
 | [],_,_=>rfl
 | (n,v)::r,m,h=>by
  unfold bindC;rw[KZ λw hw=>h w (Aa8 _ hw)];split
  .rfl
  .have:x≠n:=by rintro rfl;exact h v Ab0
   simp[this]
theorem KP{kindOf:Str->Option Al1}{x:Str}{v:Value}:∀{P:List Str} {vs:List Value} {i:Nat} {m:Str->Option Value},P.Nodup->P[i]?=aS x->vs[i]?=aS v->kindOf x=aS .local->
  bindL kindOf (P.zip vs) m x=aS v
 | [],_,_,_,_,h,_,_=>by simp at h
 | _::_,[],_,_,_,_,h,_=>by simp at h
 | p::P,w::vs,0,m,nd,h1,h2,hk=>by
  simp at h1 h2;subst h1;subst h2;show bindL kindOf ((p,w)::P.zip vs) m p=_;unfold bindL;rw[KW λv hv=>(Ap2.mp nd).1 (AA2 hv).1,bS hk];simp
 | p::P,w::vs,i+1,m,nd,h1,h2,hk=>by
  show bindL kindOf ((p,w)::P.zip vs) m x=_;unfold bindL;exact KP (i:=i) (Ap2.mp nd).2 (by simpa using h1) (by simpa using h2) hk
theorem Kn{kindOf:Str->Option Al1}{x:Str}{v:Value}:∀{P:List Str} {vs:List Value} {i:Nat} {m:Str->Option Value},P.Nodup->P[i]?=aS x->vs[i]?=aS v->kindOf x≠aS .local->
  bindC kindOf (P.zip vs) m x=aS v
 | [],_,_,_,_,h,_,_=>by simp at h
 | _::_,[],_,_,_,_,h,_=>by simp at h
 | p::P,w::vs,0,m,nd,h1,h2,hk=>by
  simp at h1 h2;subst h1;subst h2;show bindC kindOf ((p,w)::P.zip vs) m p=_;unfold bindC;rw[KZ λv hv=>(Ap2.mp nd).1 (AA2 hv).1,bG hk];simp
 | p::P,w::vs,i+1,m,nd,h1,h2,hk=>by
  show bindC kindOf ((p,w)::P.zip vs) m x=_;unfold bindC;exact Kn (i:=i) (Ap2.mp nd).2 (by simpa using h1) (by simpa using h2) hk
noncomputable def start(N:List Str)(vs:List V):St:=vs.map aS++Ad1 (N.length - vs.length) aV
noncomputable def AZ(CX:qB)(P:Program)(w:bg)(K:aU)(mg:Str->Option Value)(base:Heap)(N:List Str)(qual:Str)(scope:Scope)(f:Addr)(cd:Value)(A:An2)(bw:List Env)(s:aT)(H:Hp)(E:XK):Cx where
 prog:=P
 w:=w
 K:=K
 mg:=mg
 base:=base
 A:=A.deeper (envOfC qual scope s.heap.objs.size f cd)
 N:=N
 s₀:=s
 H₀:=H
 env:=envOfC qual scope s.heap.objs.size f cd
 bw:=bw
 stack:=envOfC qual scope s.heap.objs.size f cd::bw
 ex:=[]
 calm:=true
 fn:=λ_=>true
 pn:=[]
 xe:=λe s'=>aW (aX P w) (A.deeper (envOfC qual scope s.heap.objs.size f cd)) (AC8 (envOfC qual scope s.heap.objs.size f cd) e) (λ_ rT=>CX bw H s E e rT) (λe' rT=>CX bw H s E e' rT) s'
theorem Mj{sc:Scope}(h:sc.names.lookup x=aS .cell):∃c,(cellsFrom n sc.names []).lookup x=aS c:=by
 have q:=Ay7 sc.names n [] (.inl h);exact Ax3.mp q
theorem Kl{scope:Scope}{s s1:aT}
  (S:bz N ps scope) (hd:A.handled=aV) (e0:jf P w K mg base A bw s H) (hl:vs.length=ps.length) (r:Vals vs us)
  (x:InCallC s s.heap.objs.size (bindL (envOfC qual scope s.heap.objs.size f cd).kindOf (ps.zip us) λ_=>aV) (cellsFrom (s.heap.objs.size+1) scope.names []) (bindC (envOfC qual scope s.heap.objs.size f cd).kindOf (ps.zip us) λ_=>aV) s1):
  Inv (AZ CX P w K mg base N qual scope f cd A bw s H E) [] (start N vs) H s1:=by
 have kr:ps.length<=N.length:=by have:=congrArg Ah4 S.pre;rw[Ac5] at this;omega
 obtain⟨h1,tk,rfl,hk⟩:=x.done;have ur:∀b:Addr,b∉(AZ CX P w K mg base N qual scope f cd A bw s H E).ex:=λb z=>bV (show b∈([]:List Addr) from z) (by simp);refine⟨⟨e0.mod,S.kind,rfl,rfl,Aa6 _,λy z c h1 h2=>?_,λy hy=>?_,λy c _ h=>?_,λ_=>hd,Around.frames_deeper e0.frames, .inr ⟨rfl,rfl⟩,λb z=>bV z (ur b),e0.bs,e0.mH,λb _ _=>ur b,λb z=>bV z (ur b),e0.fO,e0.pB⟩,
  rfl,e0.bare,Un.kept hk,⟨_,x.toInCall.ns,λi y v h1 h2 h3=>?_⟩,λy c h=>⟨_,x.cell y c h⟩,e0.bO.fresh (Aa6 _),λy c h=>?_,λp hp=>bV (show p∈([]:List (Addr×Obj)) from hp) (by simp),e0.bO.kept hk,?_⟩
 .exact name_of_addr x.apart (Am9 h1) (Am9 h2)
 .have hy:scope.names.lookup y=aS .cell\/scope.names.lookup y=aS .free:=hy;rcases hy with hy | hy
  .exact Mj hy
  .exact bV rfl (S.uq _ (Am9 hy))
 .exact AF8 (x.above y c (Am9 h))
 .have hi:i<vs.length:=by
   unfold start at h2;by_cases hi:i<vs.length
   .exact hi
   .rw[Ae3 (by simpa using hi)] at h2;rw[List.getElem?_replicate] at h2;split at h2 <;> cases h2
  have ha:vs[i]?=aS v:=by
   unfold start at h2;rw[Ad9 (by simpa using hi),Ac1] at h2;cases e:vs[i]? with
   | none=>rw[e] at h2;cases h2
   | some a=>rw[e] at h2;cases h2;rfl
  obtain⟨u,hu,rv⟩:=r.get ha;have hp:ps[i]?=aS y:=by
   rw[<-S.pre,List.getElem?_take_of_lt (by omega)];exact h1
  have ndP:ps.Nodup:=by rw[<-S.pre];exact S.nd.sublist (List.take_sublist _ _)
  refine⟨u,rv,?_⟩;rcases S.par y (Ad0 hp) with k | k
  .exact .inl ⟨k,KP ndP hp hu k⟩
  .obtain⟨c,e⟩:=Mj (n:=s.heap.objs.size+1) k;refine .inr ⟨.inl k,c,e,?_⟩;have q:=x.cell y c e;rw[Kn ndP hp hu (by show scope.names.lookup y≠_;rw[k];decide)] at q;exact q
 .exact e0.bO.fresh (AF8 (x.above y c (Am9 h)))
 .unfold start;show _=N.length;rw[Aa5,Aa0,Ah8];omega
theorem QL{CX:qB}{k:Nat}{f:Addr}{dV kV doc pm gk ct oc:Value}
    {sp:Sp} (lk:K.lookup f=aS ⟨oc,od, .func (Au1 name qual params body scope dV kV doc pm an gk ct),qk⟩) (je:AA3 K gk qual=true) (S:bz N ps scope)
  (len:∀vs H Q E,sp vs H Q E->vs.length=ps.length)
  (jz:∀(A:An2) (bw:List Env) (s:aT) (H:Hp) (vs:List V) (Q:VK) (E:XK),cJ k (A.deeper (envOfC qual scope s.heap.objs.size f gk))->sp vs H Q E->
   ∃t,lK (AZ CX P w K mg base N qual scope f gk A bw s H E) body t/\t { nx:=λ_ H'=>Q .bC H',rt:=Q } (start N vs) H):
  bQ P w K mg base CX (k+1) f (Au1 name qual params body scope dV kV doc pm an gk ct) ps sp:=by
 refine⟨len,λA bw s H args us vs Q E hr e0 hb r oq=>?_⟩;have hl:=len _ _ _ _ oq;have KX:K.In s.heap:=e0.mod.pA.keeps λb o e=>(e0.bs b o e).1;have lim:s.heap.NoLimit:=e0.mod.nolimit.keeps λb o e=>(e0.bs b o e).1;have qC:∀y∈ps.zip us,scope.names.lookup y.1=aS .local\/(scope.names.lookup y.1=aS .cell/\((cellsFrom (s.heap.objs.size+1) scope.names []).lookup y.1).isSome=true):=λ⟨n,v⟩ hy=>by
  rcases S.par n (AA2 hy).1 with q | q
  .exact .inl q
  .exact .inr ⟨q,Ay7 _ _ _ (.inl q)⟩
 refine codeAny_call_function hr.depth (KX _ _ lk) rfl S.co S.gen rfl (PySem.W.codeRec_of KX je) (hb _ _ _ _ ?_);refine wpAny_newFunctionEnv_cells S.kind qC λenv he s1 x=>?_;subst he;refine⟨lim.keeps x.toInCall.keep,codeAny_func ?_⟩;obtain⟨t,ht,hq⟩:=jz A bw s H vs Q E (hr.deeper _) oq;have I:Inv (AZ CX P w K mg base N qual scope f gk A bw s H E) [] (start N vs) H s1:=Kl S hr.hd e0 hl r x;refine Ac7 (ht [] s1 (start N vs) H _ I hq) (λfl s' hs=>?_) λe s' hs=>hs;have fin:∀{σ':St} {H':Hp} {v:V} {u:Value},Inv (AZ CX P w K mg base N qual scope f gk A bw s H E) [] σ' H' s'->RelV v u->Q v H'->CE bw P w H s Q u s':=
  λ{σ' H' v u} J rv q=>⟨v,H',J.os,J.bare,J.base,J.bO,rv,q⟩
 cases fl with
 | ret u=>
  obtain⟨v,σ',H',J,rv,q⟩:=hs;exact fin J rv q
 | next=>
  obtain⟨σ',H',J,q⟩:=hs;exact fin (v:=V.bC) (u:=Aj8) J rfl q
 | brk=>
  obtain⟨_,_,_,q⟩:=hs;exact Aj2 q
 | cont=>
  obtain⟨_,_,_,q⟩:=hs;exact Aj2 q
section
variable {x:Str}{t:TA}{id T:String}{r:List V->Hp->VK->Prop}
noncomputable def zc(r:List V->Hp->VK->Prop)(t:TA):TE:=λσ H Q=>t σ H λvs H1=>r vs H1 Q
theorem Ai(hc:BG X (.builtin id) r)(hg:Gl X x)(hm:X.mg x=aV)(hv:Am4 x=aS (.builtin id))(ha:PA X (e::es) t)(hn:x≠"__name__":=by decide)(om:(x == ("__debug__":Str))=false:=by decide)
  (he:aZ (e::es) X.env=(false,bh e X.env)::aZ es X.env:=by rfl) (kr:(An9 pos (aZ es X.env)).any (·.1)=false:=by rfl):PE X (.Call (.Name x p) (e::es) [] pos) (zc r t):=by
 intro bu s σ H Q I h;refine Af4 (Es I hg hm hv ?_ hn om);exact AC3 (bZ (ha pos bu s σ H _ I h) λus s1 ⟨vs,H1,I1,r1,q1⟩=>hc bu s1 σ H1 vs us Q I1 r1 q1) he kr
theorem Au(hc:BG X (.type T) r)(hg:Gl X x)(hm:X.mg x=aV)(hv:Am4 x=aS (.type T))(ha:PA X (e::es) t)(hn:x≠"__name__":=by decide)(om:(x == ("__debug__":Str))=false:=by decide)
  (he:aZ (e::es) X.env=(false,bh e X.env)::aZ es X.env:=by rfl) (kr:(An9 pos (aZ es X.env)).any (·.1)=false:=by rfl):PE X (.Call (.Name x p) (e::es) [] pos) (zc r t):=by
 intro bu s σ H Q I h;refine Af4 (Es I hg hm hv ?_ hn om);exact Al6 (bZ (ha pos bu s σ H _ I h) λus s1 ⟨vs,H1,I1,r1,q1⟩=>hc bu s1 σ H1 vs us Q I1 r1 q1) he kr
end
end L2
section
variable {H H':L2.Hp}{X:L2.Cx}{K:aU}{pos px:PySem.Pos}{xs ys:List L2.V}{σ σ0:L2.St}{w:bg}{bu:List (Ar8×PySem.Obj)}{v y:L2.V}{A:An2}{te:L2.TE}{E:AB8->aT->Prop}{tp t1 t2:Bool}{F:Ar8->Prop}{P:PySem.Program}{l it:Ar8}{tc:L2.TT}{h h':PySem.Heap}{tg elt iter e:br}{scope:PySem.Scope}{ifs elts es:List br}{Q:L2.VK}{T:String}{B:Prop}{t' m:Nat}{bN:List (L2.Key×L2.V)}{g:L2.TG}{wi:L2.TI}{z:At7}{its:List AB8}{ns:List Int}{ps:List At7}{mg:At7->Option AB8}{QO:Option Int->L2.Hp->Prop}
namespace HT
open PySem PyProof.Rows
section
variable {prog:Program}{s:aT}
noncomputable def jN(n d:Nat):Option Int->Nat
 | none=>d
 | some v=>if v<0 then (v+(n:Int)).toNat else min v.toNat n
end
end HT
namespace L2
open PySem PySem.Spec PyProof.Rows
noncomputable abbrev TO:=St->Hp->(Option Int->Hp->Prop)->Prop
noncomputable def PO(X:Cx)(e:Option br)(t:TO):Prop:=
 ∀(bu:List (Addr×Obj)) (s:aT) (σ:St) (H:Hp) (Q:Option Int->Hp->Prop),Inv X bu σ H s->t σ H Q->
  aW (aX X.prog X.w) X.A (evalPart e X.env) (λu s'=>∃o H',Inv X bu σ H' s'/\IsPart u o/\Q o H') X.xe s
noncomputable def O5:TO:=λ_ H Q=>Q aV H
noncomputable def U0(t:TE):TO:=λσ H Q=>t σ H λx H1=>∃i,x= .int i/\Q (aS i) H1
theorem NL:∀{us:List Value},Vals (ns.map V.int) us->IntsAre us ns:=by
 induction ns with
 | nil=>intro us r;rw[At0] at r;cases r;exact .nil
 | cons n ns ih=>
  intro us r;rw[Ac3] at r;cases r with
  | cons r1 r2=>
   obtain⟨t,e⟩:=r1;subst e;exact .cons n t (ih r2)
section
variable {lo hi:Option br}{tl th:TO}{p2:Pos}
theorem A5:PO X aV O5:=by
 intro bu s σ H Q I h;rw[evalPart_none];exact Ab2 ⟨aV,H,I, .none,h⟩
theorem AJ(h:PE X e te):PO X (aS e) (U0 te):=by
 intro bu s σ H Q I hw;rw[evalPart_some];refine bZ (h bu s σ H _ I hw) λu s1 ⟨x,H1,I1,r1,q1⟩=>?_;obtain⟨i,rfl,q⟩:=q1;obtain⟨t,rfl⟩:=r1;exact⟨aS i,H1,I1, .int i t,q⟩
noncomputable def zd(X:Cx)(r:V->Option Int->Option Int->Hp->VK->Prop):Prop:=
 ∀(bu:List (Addr×Obj)) (s:aT) (σ:St) (H:Hp) (x:V) (v vl vu:Value) (lo hi:Option Int) (sl:Addr) (Q:VK),Inv X bu σ H s->RelV x v->s.heap.IsSliceOf sl vl vu .none->IsPart vl lo->IsPart vu hi->r x lo hi H Q->
  ∃T id,typeLookup (.type T) "__getitem__"=pure (aS (.builtin id))/\s.TypeIs v T/\aW (aX X.prog X.w) X.A (getItem v (.ref sl)) (EP X bu σ Q) X.xe s
noncomputable def tSl(r:V->Option Int->Option Int->Hp->VK->Prop)(te:TE)(tl th:TO):TE:=λσ H Q=>te σ H λx H1=>tl σ H1 λl H2=>th σ H2 λu H3=>r x l u H3 Q
theorem AM(hr:zd X r)(he:PE X e te)(hl:PO X lo tl)(hu:PO X hi th):PE X (.Subscript e (.Slice lo hi aV p2) pos) (tSl r te tl th):=by
 intro bu s σ H Q I h;refine Subscript_ (bZ (he bu s σ H _ I h) λv s1 ⟨x,H1,I1,r1,q1⟩=>?_);refine wpAny_Slice (bZ (hl bu s1 σ H1 _ I1 q1) λvl s2 ⟨l,H2,I2,pl,q2⟩=>bZ (hu bu s2 σ H2 _ I2 q2) λvu s3 ⟨u,H3,I3,pu,q3⟩=>?_);rw[evalPart_none];refine Ab2 ?_;have I4:Inv X bu σ H3 { s3 with heap:=s3.heap.push { cls:= .type "slice",data:= .fields #[vl,vu, .none] } }:=I3.kept (t':=s3.toks) λb ob q=>Aa4 _ q;obtain⟨T,id,hT,ht,hg⟩:=hr bu { s3 with heap:=s3.heap.push { cls:= .type "slice",data:= .fields #[vl,vu, .none] } } σ H3 x v vl vu l u s3.heap.objs.size Q I4 r1 (AH5 ..) pl pu q3;show aW (aX X.prog X.w) X.A (subscriptTail e (.Slice lo hi aV p2) v (.ref s3.heap.objs.size)) (EP X bu σ Q) X.xe { s3 with heap:=s3.heap.push { cls:= .type "slice",data:= .fields #[vl,vu, .none] } };exact tail_any (ops:=[.ref s3.heap.objs.size,v]) ht hT hg (by with_unfolding_all rfl)
noncomputable def FD(xs:List V)(lo hi:Option Int):List V:=(xs.drop (HT.jN xs.length 0 lo)).take (HT.jN xs.length xs.length hi - HT.jN xs.length 0 lo)
theorem MK(xs:List V)(lo hi:Option Int):(FD xs lo hi).length<=xs.length:=by
 unfold FD;rw[Ac5,Ad2];omega
end
noncomputable def rV(n:Nat)(i:Int):Option Nat:=if 0<=i then (if i<n then aS i.toNat else aV) else if -(n:Int)<=i then aS (i+n).toNat else aV
noncomputable def mK{α:Type}(xs:List α)(i:Int):Option α:=(rV xs.length i).bind λj=>xs[j]?
theorem Oy(h:rV n i=aS j):seqIndex? i n=aS j/\j<n/\ -(n:Int)<=i/\i<n:=by
 unfold rV at h;by_cases h0:0<=i
 .rw[bS h0] at h;by_cases h1:i<n
  .rw[bS h1] at h;have e:i.toNat=j:=Ae1.inj h;exact⟨by rw[seqIndex_of h0 h1,e],by omega,by omega,h1⟩
  .rw[bG h1] at h;cases h
 .rw[bG h0] at h;by_cases h1: -(n:Int)<=i
  .rw[bS h1] at h;have e:(i+n).toNat=j:=Ae1.inj h;exact⟨by rw[seqIndex_neg (by omega) h1,e],by omega,h1,by omega⟩
  .rw[bG h1] at h;cases h
theorem ID{α:Type}{xs:List α}{v:α}(h:mK xs i=aS v):∃j,seqIndex? i xs.length=aS j/\xs[j]?=aS v/\j<xs.length/\ -(xs.length:Int)<=i/\i<xs.length:=by
 unfold mK at h;cases e:rV xs.length i with
 | none=>rw[e] at h;cases h
 | some j=>
  rw[e] at h;obtain⟨h1,h2,h3,h4⟩:=Oy e;exact⟨j,h1,h,h2,h3,h4⟩
theorem AA{α:Type}{xs:List α}{j:Nat}{v:α}(h:xs[j]?=aS v):mK xs (j:Int)=aS v:=by
 have hj:j<xs.length:=(Ab8.mp h).1;have e:rV xs.length (j:Int)=aS j:=by
  unfold rV;rw[bS (by omega),bS (by omega)];simp
 unfold mK;rw[e];exact h
noncomputable def Us(b:br):Prop:=∀o i,subscripted b false o i=operate [o,i] (getItem o i)
noncomputable def vQ(X:Cx)(r:R2):Prop:=
 ∀(value slice:br) (bu:List (Addr×Obj)) (s:aT) (σ:St) (H:Hp) (x y:V) (v u:Value) (Q:VK),Inv X bu σ H s->RelV x v->RelV y u->r x y H Q->
  subscripted slice false v u=operate [v,u] (getItem v u)->aW (aX X.prog X.w) X.A (subscriptTail value slice v u) (EP X bu σ Q) X.xe s
noncomputable def ze(X:Cx)(id:String)(r:V->List V->Hp->VK->Prop):Prop:=
 ∀(bu:List (Addr×Obj)) (s:aT) (σ:St) (H:Hp) (x:V) (xs:List V) (v:Value) (us:List Value) (Q:VK),Inv X bu σ H s->RelV x v->Vals xs us->r x xs H Q->
  aW (aX X.prog X.w) X.A (call (.builtin id) (v::us)) (EP X bu σ Q) X.xe s
section
variable {a b:br}{ta tb:TE}
theorem AS(hr:vQ X r)(ha:PE X a ta)(hb:PE X b tb)(hs:Us b):PE X (.Subscript a b pos) (uf r ta tb):=by
 intro bu s σ H Q I h;exact Subscript_ (Wc ha hb I h λv u s2 x y H2 I2 rx ry q=>hr a b bu s2 σ H2 x y v u Q I2 rx ry q (hs _ _))
noncomputable def VS(K:aU):R2:=λx y H Q=>∃p xs i v,x= .ref p/\y= .int i/\bx K H p xs/\mK xs i=aS v/\Q v H
noncomputable def V8(K:aU):R2:=λx y H Q=>∃p xs i v,x= .ref p/\y= .int i/\dj K H p xs/\mK xs i=aS v/\Q v H
noncomputable def Xa:R2:=λx y H Q=>∃z i c,x= .str z/\y= .int i/\z.length<=sizeLine/\mK z.cps.toList i=aS c/\Q (.str ⟨#[c]⟩) H
theorem SO:vQ X (VS X.K):=by
 intro value slice bu s σ H x y v u Q I rx ry h hs;obtain⟨p,xs,i,z,rfl,rfl,hq,he,q⟩:=h;cases rx;obtain⟨t,rfl⟩:=ry;obtain⟨its,r,pl,hz⟩:=I.list hq;obtain⟨j,h1,h2,h3,h4,h5⟩:=ID he;obtain⟨w,ew,jY⟩:=r.get h2;have hl:=r.length;have hn:=IN;have fin:EP X bu σ Q w s:=⟨z,H,I,jY,q⟩;by_cases h0:0<=i
 .have hj:i.toNat=j:=by
   rw[seqIndex_of h0 h5] at h1;exact Ae1.inj h1
  exact item_listR pl.isList h0 (by omega) (by rw[hj];simpa using ew) fin hs
 .have hj:(i+(its.toArray.size:Int)).toNat=j:=by
   rw[seqIndex_neg (by omega) h4] at h1;rw[Ab6, <-hl];exact Ae1.inj h1
  exact subscriptTail_builtinR (x:=w) pl.isList.typeIs slot_list_getitem.lookup
   (wpAny_getItem_list_neg (Q:=λr s'=>r=w/\EP X bu σ Q r s') pl.isList (by omega) (by rw[Ab6] <;> omega) (by omega) (by rw[hj];simpa using ew) ⟨rfl,fin⟩) hs
theorem WC:vQ X (V8 X.K):=by
 intro value slice bu s σ H x y v u Q I rx ry h hs;obtain⟨p,xs,i,z,rfl,rfl,hq,he,q⟩:=h;cases rx;obtain⟨t,rfl⟩:=ry;obtain⟨its,r,pl,hz⟩:=I.tuple hq;obtain⟨j,h1,h2,h3,h4,h5⟩:=ID he;obtain⟨w,ew,jY⟩:=r.get h2;have hl:=r.length;have hn:=IN;have fin:EP X bu σ Q w s:=⟨z,H,I,jY,q⟩;exact subscriptTail_builtinR (x:=w) pl.typeIs slot_tuple_getitem.lookup
  (getItem_tuple (j:=j) (Q:=λr s'=>r=w/\EP X bu σ Q r s') pl (by omega) (by omega) (by rw[Ab6, <-hl];exact h1) (by simpa using ew) ⟨rfl,fin⟩) hs
theorem JE:vQ X Xa:=by
 intro value slice bu s σ H x y v u Q I rx ry h hs;obtain⟨z,i,c,rfl,rfl,hz,he,q⟩:=h;obtain⟨t,rfl⟩:=rx;obtain⟨t',rfl⟩:=ry;obtain⟨j,h1,h2,h3,h4,h5⟩:=ID he;have hl:z.cps.toList.length=z.length:=by simp[Am3]
 rw[hl] at h1 h4 h5;have hn:=IN;exact tail_any (AC9 s z t) slot_str_getitem.lookup (getItem_str (c:=c) (by
  have e1:decide (i< -(2 ^ 63:Int))=false:=lI (by omega);have e2:decide (i>=2 ^ 63)=false:=lI (by omega);rw[e1,e2,Bool.or_false]) (by rw[h1];simpa using h2) ⟨.str ⟨#[c]⟩,H,I.tok _,⟨_,rfl⟩,q⟩) hs
theorem NP(its:List Value)(n j:Nat)(u:Value):AA4 (·.setIfInBounds j u) { cls:= .type "list",data:= .seq its.toArray n }={ cls:= .type "list",data:= .seq (its.set j u).toArray n }:=by
 simp[AA4]
theorem Inv.lst{s:aT}{p:Addr}(I:Inv X bu σ H s)(h:H p=aS (.lst xs)):
  ∃(its:List Value) (n:Nat),Vals xs its/\s.heap.get? p=aS { cls:= .type "list",data:= .seq its.toArray n }/\xs.length<=sizeLine:=by
 obtain⟨z,its,n,r,e⟩:=I.bO p _ h;exact⟨its,n,r,e,z⟩
theorem Inv.uu{s:aT}{its':List Value}(I:Inv X bu σ H s)(h:H p=aS (.lst xs))
  (ho:s.heap.get? p=aS { cls:= .type "list",data:= .seq its.toArray n }) (hf:f { cls:= .type "list",data:= .seq its.toArray n }={ cls:= .type "list",data:= .seq its'.toArray n' }) (r:Vals ys its') (hz:ys.length<=sizeLine) (t:Nat):
  Inv X bu σ (upd H p (.lst ys)) { s with heap:=s.heap.update p f,toks:=t }:=by
 have e:(s.heap.update p f).get? p=aS { cls:= .type "list",data:= .seq its'.toArray n' }:=by
  rw[Ae7 f ho (by rw[hf] <;> rfl),hf]
 refine I.write (x:=p) (e:=p) (by rw[h];trivial) (.inl rfl) (λb u hb q=>(Ad7 _ _ (Ak9 hb)).trans q) ⟨_,e⟩ ?_;exact⟨hz,its',n',r,e⟩
noncomputable def WR:V->V->V->Hp->(Hp->Prop)->Prop:=λo i v H Q=>∃p xs k j,o= .ref p/\i= .int k/\H p=aS (.lst xs)/\rV xs.length k=aS j/\Q (upd H p (.lst (xs.set j v)))
theorem Jv:XD X WR:=by
 intro bu s σ H o i v ov iv u Q I ro ri rv h;obtain⟨p,xs,k,j,rfl,rfl,hp,hj,q⟩:=h;cases ro;obtain⟨t,rfl⟩:=ri;obtain⟨its,n,r,ho,hz⟩:=I.lst hp;obtain⟨h1,h2,h3,h4⟩:=Oy hj;have hl:=r.length;have hn:=IN;have I':Inv X bu σ (upd H p (.lst (xs.set j v))) { s with heap:=s.heap.update p (AA4 (·.setIfInBounds j u)) }:=
  I.uu hp ho (NP its n j u) (r.set rv j) (by rw[List.length_set];exact hz) s.toks
 by_cases h0:0<=k
 .have hk:k.toNat=j:=by
   rw[seqIndex_of h0 h4] at h1;exact Ae1.inj h1
  exact PySem.W.ki_setAt ho h0 (by omega) (by rw[Ab6, <-hl];exact h4) (by rw[hk];exact⟨_,I',q⟩)
 .have hk:(k+(its.toArray.size:Int)).toNat=j:=by
   rw[seqIndex_neg (by omega) h3] at h1;rw[Ab6, <-hl];exact Ae1.inj h1
  exact PySem.W.ki_setBack ho (by omega) (by rw[Ab6, <-hl];exact h3) (by omega) (by rw[hk];exact⟨_,I',q⟩)
theorem GU(lo hi:Option Int)(n:Nat):(At5 lo hi aV n).1=((HT.jN n 0 lo:Nat):Int)/\(At5 lo hi aV n).2.1=((HT.jN n n hi:Nat):Int)/\(At5 lo hi aV n).2.2=1:=by
 refine⟨?_,?_,rfl⟩
 .cases lo with
  | none=>simp[At5,HT.jN]
  | some i=>
   simp only[At5,HT.jN,Option.getD_none,show (1:Int)>0 by decide,if_true];by_cases h:i<0
   .simp only[h,if_true] <;> omega
   .simp only[h,if_false] <;> omega
 .cases hi with
  | none=>simp[At5,HT.jN]
  | some i=>
   simp only[At5,HT.jN,Option.getD_none,show (1:Int)>0 by decide,if_true];by_cases h:i<0
   .simp only[h,if_true] <;> omega
   .simp only[h,if_false] <;> omega
theorem J6(its:List Value)(lo hi:Option Int):slicePick its.toArray lo hi aV=((its.drop (HT.jN its.length 0 lo)).take (HT.jN its.length its.length hi - HT.jN its.length 0 lo)).toArray:=by
 obtain⟨h1,h2,h3⟩:=GU lo hi its.toArray.size;unfold slicePick;rw[h1,h2,h3];simp only[sliceRange_one,pick_run,Ab6] <;> rfl
noncomputable def Vd(K:aU):V->Option Int->Option Int->Hp->VK->Prop:=λx lo hi H Q=>∃a xs,x= .ref a/\bx K H a xs/\∀p,H p=aV->Q (.ref p) (upd H p (.lst (FD xs lo hi)))
theorem S0:zd X (Vd X.K):=by
 intro bu s σ H x v vl vu lo hi sl Q I rx hs pl pu h;obtain⟨a,xs,rfl,hx,q⟩:=h;cases rx;obtain⟨its,r,ht,hz⟩:=I.list hx;have hlen:=r.length;refine⟨"list",_,slot_list_getitem.lookup,ht.isList.typeIs,?_⟩;refine wpAny_getItem_list_slice ht.isList hs pl pu .none (by simp) ?_ (by rw[Ab6] <;> omega);rw[J6, <-hlen];refine⟨.ref s.heap.objs.size,_,I.laid (t':=s.toks) (o:= .lst (FD xs lo hi)) (λb ob q=>Aa4 _ q) (Aa6 _) ?_,rfl,q _ (I.bO.fresh (Aa6 _))⟩;exact⟨Ab4 (MK xs lo hi) hz,_,0,(r.drop (HT.jN xs.length 0 lo)).take (HT.jN xs.length xs.length hi - HT.jN xs.length 0 lo),Ab9 _ rfl⟩
noncomputable def Bx:V->Bool
 | .bC=>true
 | .bl _=>true
 | .int _=>true
 | .str _=>true
 | _=>false
noncomputable def nA:V->V->Bool
 | .bC, .bC=>true
 | .bl a, .bl b=>a == b
 | .bl a, .int b=>(if a then 1 else 0) == b
 | .int a, .bl b=>a == (if b then 1 else 0)
 | .int a, .int b=>a == b
 | .str a, .str b=>a == b
 | _,_=>false
theorem Sf{u v:Value}(ry:RelV y u)(rx:RelV x v)(fy:Bx y=true)(fx:Bx x=true):At8 A s u v (nA y x):=by
 cases y with
 | bC=>
  cases ry;cases x with
  | bC=>cases rx;exact Ax7 _
  | bl b=>cases rx;exact AI5 b
  | int b=>obtain⟨t,rfl⟩:=rx;exact AJ3 b t
  | str b=>obtain⟨t,rfl⟩:=rx;exact AJ4 b t
  | _=>exact bV (show false=true from fx) Ab3
 | bl a=>
  cases ry;cases x with
  | bC=>cases rx;exact AI6 a
  | bl b=>cases rx;exact AI7 a b
  | int b=>obtain⟨t,rfl⟩:=rx;exact AJ5 a b t
  | str b=>obtain⟨t,rfl⟩:=rx;exact AJ6 a b t
  | _=>exact bV (show false=true from fx) Ab3
 | int a=>
  obtain⟨t',rfl⟩:=ry;cases x with
  | bC=>cases rx;exact AJ7 a t'
  | bl b=>cases rx;exact AJ8 a t' b
  | int b=>obtain⟨t,rfl⟩:=rx;exact SeqAt.EqAt.int_int a t' b t
  | str b=>obtain⟨t,rfl⟩:=rx;exact AB1 a t' b t
  | _=>exact bV (show false=true from fx) Ab3
 | str a=>
  obtain⟨t',rfl⟩:=ry;cases x with
  | bC=>cases rx;exact AJ9 a t'
  | bl b=>cases rx;exact AK0 a t' b
  | int b=>obtain⟨t,rfl⟩:=rx;exact AB2 a t' b t
  | str b=>obtain⟨t,rfl⟩:=rx;exact SeqAt.EqAt.str_str a t' b t
  | _=>exact bV (show false=true from fx) Ab3
 | _=>exact bV (show false=true from fy) Ab3
noncomputable def oz(x:V)(u:Value):Bool:=match u with
 | .none=>nA .bC x
 | .bool b=>nA (.bl b) x
 | .int i _=>nA (.int i) x
 | .str z _=>nA (.str z) x
 | _=>false
theorem QW(r:RelV y u)(f:Bx y=true):oz x u=nA y x:=by
 cases y with
 | bC=>cases r;rfl
 | bl b=>cases r;rfl
 | int i=>obtain⟨t,rfl⟩:=r;rfl
 | str z=>obtain⟨t,rfl⟩:=r;rfl
 | _=>exact bV (show false=true from f) Ab3
theorem GJ{x:V}:∀{xs:List V} {us:List Value},Vals xs us->xs.all Bx=true->us.any (oz x)=xs.any λy=>nA y x
 | _,_, .nil,_=>rfl
 | y::xs,u::us, .cons r t,f=>by
  rw[List.all_cons,Ab5] at f;rw[Ay0,Ay0,QW r f.1,GJ t f.2]
theorem FH{A:An2}{s:aT}{x:V}{v:Value}(rx:RelV x v)(fx:Bx x=true):∀{xs:List V} {us:List Value},Vals xs us->xs.all Bx=true->∀u∈us,At8 A s u v (oz x u)
 | _,_, .nil,_=>λu hu=>by cases hu
 | y::xs,u::us, .cons r t,f=>λu' hu=>by
  rw[List.all_cons,Ab5] at f;rcases Aa7.mp hu with rfl | hu
  .rw[QW r f.1];exact Sf r rx f.1 fx
  .exact FH rx fx t f.2 u' hu
noncomputable def rF(x:V)(xs:List V):Bool:=xs.any λy=>nA y x
noncomputable def zf(K:aU)(neg:Bool):R2:=λx y H Q=>∃p xs,y= .ref p/\(bx K H p xs\/dj K H p xs)/\Bx x=true/\xs.all Bx=true/\Q (.bl (if neg then !rF x xs else rF x xs)) H
theorem PM:gf X (Ak3 .In) (zf X.K false):=by
 intro bu s σ H x y v u Q I rx ry h;obtain⟨p,xs,rfl,hq,fx,fs,q⟩:=h;cases ry;rcases hq with hq | hq
 .obtain⟨its,r,pl,hz⟩:=I.list hq;refine SeqAt.in_listAt (oz x) pl.isList (λw hw=>FH rx fx r fs w (by simpa using hw)) ⟨.bl _,H,I,rfl,?_⟩;rw[show its.toArray.any (oz x)=its.any (oz x) by simp,GJ r fs];exact q
 .obtain⟨its,r,pl,hz⟩:=I.tuple hq;refine SeqAt.in_tupleAt (oz x) pl (λw hw=>FH rx fx r fs w (by simpa using hw)) ⟨.bl _,H,I,rfl,?_⟩;rw[show its.toArray.any (oz x)=its.any (oz x) by simp,GJ r fs];exact q
theorem La:gf X (Ak3 .NotIn) (zf X.K true):=by
 intro bu s σ H x y v u Q I rx ry h;obtain⟨p,xs,rfl,hq,fx,fs,q⟩:=h;cases ry;rcases hq with hq | hq
 .obtain⟨its,r,pl,hz⟩:=I.list hq;refine SeqAt.notIn_listAt (oz x) pl.isList (λw hw=>FH rx fx r fs w (by simpa using hw)) ⟨.bl _,H,I,rfl,?_⟩;rw[show its.toArray.any (oz x)=its.any (oz x) by simp,GJ r fs];exact q
 .obtain⟨its,r,pl,hz⟩:=I.tuple hq;refine SeqAt.notIn_tupleAt (oz x) pl (λw hw=>FH rx fx r fs w (by simpa using hw)) ⟨.bl _,H,I,rfl,?_⟩;rw[show its.toArray.any (oz x)=its.any (oz x) by simp,GJ r fs];exact q
theorem Lb:BG X (.type "list") (λxs H Q=>∃p ys,xs=[.ref p]/\(bx X.K H p ys\/dj X.K H p ys)/\∀l,H l=aV->Q (.ref l) (upd H l (.lst ys))):=by
 intro bu s σ H xs us Q I r h;obtain⟨p,ys,rfl,hq,q⟩:=h;obtain⟨u,rfl,rx⟩:=Fh r;cases rx;have fin:∀(its:List Value),Vals ys its->ys.length<=sizeLine->∀(h':Heap) (c':Nat),(∀b o',s.heap.get? b=aS o'->h'.get? b=aS o')->
   h'.get? s.heap.objs.size=aS { cls:= .type "list",dict:=aV,data:= .seq its.toArray c',slots:= #[] }->EP X bu σ Q (.ref s.heap.objs.size) { s with heap:=h' }:=λits r' hz h' c' kp e=>
  ⟨.ref s.heap.objs.size,_,I.laid (t':=s.toks) kp (Aa6 _) (show bK X.prog X.w _ h' _ (.lst ys) from⟨hz,its,c',r',e⟩),rfl,q _ (I.bO.fresh (Aa6 _))⟩
 rcases hq with hq | hq
 .obtain⟨its,r',pl,hz⟩:=I.list hq;have hlen:=r'.length;obtain⟨o,ho,hc,n,hd⟩:=pl.isList;exact call_list_seq p (.inl rfl) ho hc hd (λh' c' kp e=>fin its r' hz h' c' kp e) (by simp only[Ab6] <;> omega)
 .obtain⟨its,r',pl,hz⟩:=I.tuple hq;have hlen:=r'.length;obtain⟨o,ho,hc,n,hd⟩:=pl;exact call_list_seq p (.inr rfl) ho hc hd (λh' c' kp e=>fin its r' hz h' c' kp e) (by simp only[Ab6] <;> omega)
theorem J3:BG X (.type "tuple") (λxs H Q=>∃p ys,xs=[.ref p]/\((bx X.K H p ys/\∀l,H l=aV->Q (.ref l) (upd H l (.tup ys)))\/(dj X.K H p ys/\Q (.ref p) H))):=by
 intro bu s σ H xs us Q I r h;obtain⟨p,ys,rfl,h⟩:=h;obtain⟨u,rfl,rx⟩:=Fh r;cases rx;rcases h with ⟨hq,q⟩ | ⟨hq,q⟩
 .obtain⟨its,r',pl,hz⟩:=I.list hq;have hlen:=r'.length;refine call_tuple_list pl.isList (λh' kp=>?_) (by simp only[Ab6] <;> omega);have I1:Inv X bu σ H { s with heap:=h' }:=I.kept (t':=s.toks) kp;have I2:Inv X bu σ (upd H h'.objs.size (.tup ys)) { s with heap:=h'.push { cls:= .type "tuple",data:= .seq its.toArray } }:=
   I1.laid (t':=s.toks) (λb o e=>Aa4 _ e) (Aa6 _) (show bK X.prog X.w _ _ _ (.tup ys) from⟨hz,its,r',IsTup.new _ _⟩)
  exact⟨.ref h'.objs.size,_,I2,rfl,q _ (I1.bO.fresh (Aa6 _))⟩
 .obtain⟨its,r',pl,hz⟩:=I.tuple hq;exact call_tuple_same pl ⟨.ref p,H,I,rfl,q⟩
noncomputable def uv(K:aU)(T:String)(x:V)(H:Hp):Prop:=match x with
 | .str _=>T="str"
 | .int _=>T="int"
 | .ref p=>(T="list"/\∃xs,bx K H p xs)\/(T="tuple"/\∃o,K.lookup p=aS o/\o.cls= .type "tuple"/\o.dict=aV)\/
  (T="dict"/\((∃bN,H p=aS (.dK bN))\/∃bN,H p=aS (.dT bN)))\/(T="set"/\∃S n,H p=aS (.set S n))
 | _=>False
theorem Qt{s:aT}{v:Value}(I:Inv X bu σ H s)(r:RelV x v)(ty:uv X.K T x H):
  s.TypeIs v T/\∀a,v= .ref a->∃ob,s.heap.get? a=aS ob/\ob.dict=none:=by
 cases x with
 | str z=>
  obtain⟨t,rfl⟩:=r;cases (show T="str" from ty);exact⟨AC9 s z t,λ_ e=>nomatch e⟩
 | int i=>
  obtain⟨t,rfl⟩:=r;cases (show T="int" from ty);exact⟨typeIs_int s i t,λ_ e=>nomatch e⟩
 | ref p=>
  cases r;rcases ty with ⟨rfl,xs,hq⟩ | ⟨rfl,o,hk,hc,hd⟩ | ⟨rfl,hk⟩ | ⟨rfl,S,n,hk⟩
  .obtain⟨its,_,pl,_⟩:=I.list hq;refine⟨pl.isList.typeIs,λa e=>?_⟩;cases e;obtain⟨o,n,e,c,hd,_⟩:=pl;exact⟨o,e,hd⟩
  .refine⟨⟨o,I.dG p o hk,hc⟩,λa e=>?_⟩;cases e;exact⟨o,I.dG _ o hk,hd⟩
  .have z:∃o,s.heap.get? p=aS o/\o.ExactDict:=by
    rcases hk with ⟨bN,hk⟩ | ⟨bN,hk⟩
    .obtain⟨_,_,_,_,o,_,_,e,ex,_⟩:=I.bO p _ hk;exact⟨o,e,ex⟩
    .obtain⟨_,_,_,_,o,_,_,e,ex,_⟩:=I.bO p _ hk;exact⟨o,e,ex⟩
   obtain⟨o,e,ex⟩:=z;refine⟨⟨o,e,ex.1⟩,λa e2=>?_⟩;cases e2;exact⟨o,e,ex.2.1⟩
  .obtain⟨o,_,_,_,e,ex,_⟩:=I.bO p _ hk;refine⟨⟨o,e,ex.1⟩,λa e2=>?_⟩;cases e2;exact⟨o,e,ex.2.1⟩
 | _=>exact Aj2 ty
noncomputable def V9(K:aU)(T:String)(r:V->List V->Hp->VK->Prop)(to:TE):TE:=λσ H Q=>to σ H λx H1=>uv K T x H1/\r x [] H1 Q
noncomputable def tBM(K:aU)(T:String)(r:V->List V->Hp->VK->Prop)(to:TE)(t:TA):TE:=λσ H Q=>to σ H λx H1=>uv K T x H1/\t σ H1 λxs H2=>r x xs H2 Q
variable {o:br}{to:TE}{t:TA}{name:Str}{apos dU:Pos}{id:String}{r:V->List V->Hp->VK->Prop}
theorem WE(pa:PlainAttrs T)(slot:Slot T name id)(uw:typeOf (.builtin id)=pure (.type "method_descriptor"))(hm:ze X id r)(ho:PE X o to)
  (kK:Ao5 o name X.env (bh o X.env)=bh o X.env:=by rfl) (kL:(apos.endLine == dU.line)=true:=by rfl):PE X (.Call (.Attribute o name apos) [] [] dU) (V9 X.K T r to):=by
 intro bu s σ H Q I h;refine wpAny_Call_method0_late kK kL (bZ (ho bu s σ H _ I h) λv s1 ⟨x,H1,I1,r1,ty,q1⟩=>?_);obtain⟨h1,h2⟩:=Qt I1 r1 ty;exact⟨T,id,pa,slot,uw,h1,h2,Calls.callWith_builtin rfl (PySem.evalArgs_none (hm bu s1 σ H1 x [] v [] Q I1 r1 .nil q1))⟩
theorem XZ(pa:PlainAttrs T)(slot:Slot T name id)(uw:typeOf (.builtin id)=pure (.type "method_descriptor"))(hm:ze X id r)(ho:PE X o to)(ha:PA X (e::es) t)
  (kK:Ao5 o name X.env (bh o X.env)=bh o X.env:=by rfl)
  (ux:((An9 dU (aZ (e::es) X.env)).all (λx=> !x.1)&&(backToKw dU (Az4 [] X.env)).all (λx=>x.1.isSome)
   && decide ((e::es).length+([]:List Keyword).length+(if ([]:List Keyword).isEmpty then 0 else 1)<30))=true:=by rfl)
  (kL:(apos.endLine == dU.line)=true:=by rfl) (hs:aZ (e::es) X.env=(false,bh e X.env)::aZ es X.env:=by rfl) (oA:(An9 dU (aZ es X.env)).any (·.1)=false:=by rfl):
  PE X (.Call (.Attribute o name apos) (e::es) [] dU) (tBM X.K T r to t):=by
 intro bu s σ H Q I h;refine wpAny_Call_method_late kK ux kL rfl (bZ (ho bu s σ H _ I h) λv s1 ⟨x,H1,I1,r1,ty,q1⟩=>?_);obtain⟨h1,h2⟩:=Qt I1 r1 ty;refine⟨T,id,pa,slot,uw,h1,h2,?_⟩;have hA:=ha dU bu s1 σ H1 _ I1 q1;rw[hs] at hA ⊢;refine Calls.callWith_builtin (by show (false||(An9 dU (aZ es X.env)).any (·.1))=false;rw[oA] <;> rfl) (Calls.evalArgs_plain ?_);exact bZ hA λus s2 ⟨vs,H2,I2,r2,q2⟩=>hm bu s2 σ H2 x vs v us Q I2 r1 r2 q2
end
noncomputable def rG(X:Cx)(id:String)(r:V->List V->Hp->VK->Prop):Prop:=
 ∀(bu:List (Addr×Obj)) (s:aT) (σ:St) (H:Hp) (x:V) (xs:List V) (v:Value) (us:List Value) (Q:VK),Inv X bu σ H s->RelV x v->Vals xs us->r x xs H Q->
  aW (aX X.prog X.w) X.A (call (.builtin id) (v::us)) (EP X bu σ Q) X.xe s
theorem Vals.one:∀{x:V} {us:List Value},Vals [x] us->∃u,us=[u]/\RelV x u
 | _,_, .cons r .nil=>⟨_,rfl,r⟩
theorem Vals.zero:∀{us:List Value},Vals [] us->us=[]
 | _, .nil=>rfl
theorem Vals.dropLast{us:List Value}(h:Vals xs us):Vals xs.dropLast us.dropLast:=by
 induction h with
 | nil=>exact .nil
 | cons r t ih=>
  cases t with
  | nil=>exact .nil
  | cons q t'=>exact .cons r ih
theorem Vals.rep{us:List Value}(h:Vals xs us):∀k:Nat,Vals (Ad1 k xs).flatten (Ad1 k us).flatten
 | 0=> .nil
 | k+1=>by
  rw[Af9,Af9,Ap4,Ap4];exact Vals.append h (Vals.rep h k)
theorem Oh{α:Type}(l:List α):l.eraseIdx (l.length - 1)=l.dropLast:=by
 induction l with
 | nil=>rfl
 | cons a r ih=>
  cases r with
  | nil=>rfl
  | cons b r=>
   have e:(a::b::r).length - 1=((b::r).length - 1)+1:=by
    have h1:(a::b::r).length=r.length+2:=rfl;have h2:(b::r).length=r.length+1:=rfl;omega
   rw[e,List.eraseIdx_cons_succ,ih]
   all_goals rfl
theorem KJ(its:List Value):∀(k:Nat) (acc:List Value),
  List.foldl (λx1 x2=>x1++x2) acc.toArray (Ad1 k its.toArray)=(acc++(Ad1 k its).flatten).toArray
 | 0,acc=>by simp
 | k+1,acc=>by
  have e:acc.toArray++its.toArray=(acc++its).toArray:=by simp
  have e2:(acc++its)++(Ad1 k its).flatten=acc++(Ad1 (k+1) its).flatten:=by
   rw[Af9,Ap4,Ah3]
  rw[<-e2, <-KJ its k (acc++its), <-e,Af9,List.foldl_cons]
section
variable {s:aT}{b:Addr}{zs:List V}
theorem Inv.qD{its':List Value}(I:Inv X bu σ H s)(hH:H l=aS (.lst xs))
  (e:s.heap.get? l=aS { cls:= .type "list",data:= .seq its.toArray n }) (hf:f its.toArray=its'.toArray) (hv:Vals ys its') (hz:ys.length<=sizeLine):
  Inv X bu σ (upd H l (.lst ys)) { s with heap:=s.heap.update l (AA4 f),toks:=t' }:=by
 have q:=PySem.IsL.update e f;rw[hf] at q;refine I.write (x:=l) (e:=l) (by rw[hH];exact trivial) (.inl rfl) (λb' u hb hu=>(Ad7 s.heap (AA4 f) (Ak9 hb)).trans hu) ⟨_,q⟩ ?_;exact⟨hz,its',_,hv,q⟩
theorem Inv.qE(I:Inv X bu σ H s)(hv:Vals ys its)(hz:ys.length<=sizeLine):
  Inv X bu σ (upd H s.heap.objs.size (.lst ys)) { s with heap:=s.heap.push { cls:= .type "list",data:= .seq its.toArray },toks:=t' }:=
 I.laid (λ_ _ q=>Aa4 _ q) (Aa6 _) ⟨hz,its,0,hv,Ab9 _ rfl⟩
theorem Inv.fresh(I:Inv X bu σ H s):H s.heap.objs.size=none:=I.bO.fresh (Aa6 _)
theorem Inv.mL(I:Inv X bu σ H s)(hH:H l=aS (.lst xs)):xs.length<=sizeLine/\∃(its:List Value) (n:Nat),Vals xs its/\xs.length=its.length/\s.heap.get? l=aS { cls:= .type "list",data:= .seq its.toArray n }:=by
 obtain⟨z,its,n,r,e⟩:=I.bO l _ hH;exact⟨z,its,n,r,r.length,e⟩
theorem Jy(h:n<=sizeLine):Ap7 n=false:=by
 unfold Ap7;exact lI (by omega)
end
section
noncomputable def pC:V->List V->Hp->VK->Prop:=λx vs H Q=>∃l xs y,x= .ref l/\vs=[y]/\H l=aS (.lst xs)/\xs.length<sizeLine/\Q .bC (upd H l (.lst (xs++[y])))
theorem A0:rG X "list.append" pC:=by
 intro bu s σ H x vs v us Q I rx rv h;obtain⟨l,xs,y,rfl,rfl,hH,hz,q⟩:=h;cases rx;obtain⟨u,rfl,ru⟩:=rv.one;obtain⟨z,its,n,r,hl,e⟩:=I.mL hH;refine At4 Aj6 ⟨_,e,rfl⟩ F.entry_list_append (F.args_list_append_2 _ _) (PySem.list_append l its.toArray n u (by rw[Ab6];omega)) ⟨e,?_⟩;refine⟨.bC,_,I.qD (its':=its++[u]) hH e (by simp) (r.append (.cons ru .nil)) ?_,rfl,q⟩;rw[Aa5,Ah9];omega
noncomputable def pD:V->List V->Hp->VK->Prop:=λx vs H Q=>∃l b xs zs,x= .ref l/\vs=[.ref b]/\H l=aS (.lst xs)/\H b=aS (.lst zs)/\xs.length+zs.length<=sizeLine/\Q .bC (upd H l (.lst (xs++zs)))
theorem P1:rG X "list.extend" pD:=by
 intro bu s σ H x vs v us Q I rx rv h;obtain⟨l,b,xs,zs,rfl,rfl,hH,hB,hz,q⟩:=h;cases rx;obtain⟨u,rfl,ru⟩:=rv.one;cases ru;obtain⟨z,its,n,r,hl,e⟩:=I.mL hH;obtain⟨z2,cE,n2,r2,lC,e2⟩:=I.mL hB;have hsz:its.toArray.size+cE.toArray.size<=sizeLine:=by rw[Ab6,Ab6];omega
 have qF:¬ (!its.toArray.isEmpty&&Ap7 (its.toArray.size+cE.toArray.size))=true:=by
  rw[Jy hsz,Ag8];exact Ab3
 refine At4 F.slot_list_extend ⟨_,e,rfl⟩ F.entry_list_extend (F.args_list_extend_2 _ _)
  (AutoSeq1.list_extend_list_list_0 l its.toArray n b cE.toArray n2 qF (by rw[Ab6];omega) (by omega)) ⟨e,e2,?_⟩
 refine⟨.bC,_,I.qD (its':=its++cE) hH e (by simp) (r.append r2) ?_,rfl,q⟩;rw[Aa5];omega
noncomputable def aaf:V->List V->Hp->VK->Prop:=λx vs H Q=>∃l xs y,x= .ref l/\vs=[]/\H l=aS (.lst xs)/\xs[xs.length - 1]?=aS y/\Q y (upd H l (.lst xs.dropLast))
theorem Qz:rG X "list.pop" aaf:=by
 intro bu s σ H x vs v us Q I rx rv h;obtain⟨l,xs,y,rfl,rfl,hH,hy,q⟩:=h;cases rx;have hus:=rv.zero;subst hus;obtain⟨z,its,n,r,hl,e⟩:=I.mL hH;obtain⟨u,hu,ru⟩:=r.get hy;have hy':its.toArray[its.toArray.size - 1]?=aS u:=by
  show its.toArray[its.length - 1]?=aS u;rw[<-Ai0, <-hl];exact hu
 refine At4 AD0 ⟨_,e,rfl⟩ F.entry_list_pop (F.args_list_pop_1 _) (MeetsSeq.list_pop_last l its.toArray n u hy' (by rw[Ab6];omega)) ⟨e,?_⟩;refine⟨y,_,I.qD (its':=its.dropLast) hH e ?_ r.dropLast ?_,ru,q⟩
 .show its.toArray.eraseIdxIfInBounds (its.toArray.size - 1)=its.dropLast.toArray;rw[Ab6,List.eraseIdxIfInBounds_toArray,Oh]
 .rw[List.length_dropLast];omega
noncomputable def Xe:R2:=λx y H Q=>∃l k xs,x= .ref l/\y= .int k/\H l=aS (.lst xs)/\ -(2 ^ 63)<=k/\k<2 ^ 63/\xs.length*k.toNat<=sizeLine/\
 ∀p,H p=aV->Q (.ref p) (upd H p (.lst (Ad1 k.toNat xs).flatten))
theorem Uu{α:Type}(xs:List α)(k:Nat):(Ad1 k xs).flatten.length=k*xs.length:=by
 induction k with
 | zero=>simp
 | succ k ih=>rw[Af9,Ap4,Aa5,ih,Nat.succ_mul,Nat.add_comm]
theorem Hg:gf X (Ar2 .Mult) Xe:=by
 intro bu s σ H x y v u Q I rx ry h;obtain⟨l,k,xs,rfl,rfl,hH,h1,h2,hz,q⟩:=h;cases rx;obtain⟨t,rfl⟩:=ry;obtain⟨z,its,n,r,hl,e⟩:=I.mL hH;have hlen:its.toArray.size*k.toNat<=sizeLine:=by rw[Ab6, <-hl];exact hz
 have aag:¬ its.toArray.size*k.toNat>(2 ^ 63 - 1) / 8:=by
  have:(sizeLine:Nat)<=(2 ^ 63 - 1) / 8:=by decide
  omega
 have aah:¬ (!Builtin.List.listFitsIndex k)=true:=by
  rw[fitsIndex_both h1 h2];exact Ab3
 have qF:¬ Ap7 (its.toArray.size*k.toNat)=true:=by
  rw[Jy hlen];exact Ab3
 have aai:List.foldl (λx1 x2=>x1++x2) #[] (Ad1 (if its.toArray.isEmpty=true then 0 else k.toNat) its.toArray)=(Ad1 k.toNat its).flatten.toArray:=by
  have f0:∀m:Nat,List.foldl (λx1 x2=>x1++x2) #[] (Ad1 m its.toArray)=(Ad1 m its).flatten.toArray:=λm=>by
   have:=KJ its m [];rw[AH6] at this;exact this
  rw[f0];cases its with
  | nil=>simp
  | cons a r'=>rw[bG (by simp)]
 refine wpAny_binaryOp_repeat_ref (T:="list") (U:="int") (by decide) ⟨_,e,rfl⟩ (λs'=>typeIs_int s' k t) noFill_list_mul F.fills_int_mul F.slot_int_rmul repeat_list F.slot_int_index.lookup
  (At4 F.slot_int_rmul (typeIs_int s k t) F.entry_int_rmul (F.args_int_rmul_2 _ _) (int___rmul___int_list k t l its.toArray n)
   ⟨e,rfl,⟨_,e,rfl⟩,At4 F.slot_list_mul ⟨_,e,rfl⟩ F.entry_list_mul (F.args_list_mul_2 _ _) (AutoListH.list___mul___list_int_3 l its.toArray n k t aah aag qF) ⟨e,?_⟩⟩)
 rw[aai];exact⟨.ref _,_,I.qE (t':=s.toks) (r.rep k.toNat) (by rw[Uu,Nat.mul_comm];exact hz),rfl,q _ I.fresh⟩
end
section
variable {prog:Program}{s:aT}
theorem Qb(its cE:List Value)(a c:Nat):its.toArray.extract 0 a++cE.toArray++its.toArray.extract c its.toArray.size=(its.take a++cE++its.drop c).toArray:=by
  apply Array.toList_inj.mp
  first
    | (simp
       exact Ae6 (by simp))
    | simp[Ae6]
    | simp
end
end L2
namespace Att
open PySem PySem.W PySem.Calls PyProof.Rows
theorem Ii{P:Az9}:∀(ns:List Int) (vs:List Value),WellAll P h vs (ns.map WData.int)->IntsAre vs ns:=by
 intro ns
 induction ns with
 | nil=>
  intro vs w;rw[At0] at w;cases w;exact .nil
 | cons n ns ih=>
  intro vs w;rw[Ac3] at w;cases w with
  | cons a b=>
   cases a;exact .cons _ _ (ih _ b)
theorem Po{l:Ay1}(hn:l.most=aS n){P:Az9}
  (rW:l.row.toRowW.claim.pre args=true) (hwl:WellAll P h vals args):
  ∃a vs ns,vals=[aY a]/\args=[WData.list (ns.map WData.int)]/\h.get? a=aS { cls:= .type "list",data:= .seq vs.toArray }/\IntsAre vs ns/\ns.length<=n:=by
 have hsh:WShape.hasAll [] args [.list .int]=true:=(pre_splitW rW).1;have hc:l.pre.holds [] { args:=args }=true:=(pre_splitW rW).2;obtain⟨d,r,rfl,h1,h2⟩:=hasAllW_cons hsh;obtain rfl:=hasAllW_nil h2;obtain⟨xs,rfl,h3⟩:=hasW_list h1;obtain⟨ns,rfl⟩:=items_int h3;have hlen:ns.length<=n:=by
  unfold OpenLaw.pre at hc;have h4:(WTm.not (.lt (.lit (.int (n:Int))) (.len (.arg 0)))).holds [] { args:=[.list (ns.map .int)] }=true:=by
   have h4:=(holds_andW hc).1;rw[hn] at h4;exact h4
  have h5:=condW_of h4 (w_not (w_lt w_lit (w_len_list (w_arg rfl))));rw[Aa0] at h5;refine AH2 λq=>?_;have q':(n:Int)<((ns.length:Nat):Int):=by omega
  first
   | (rw[iT q'] at h5;exact bV h5 (by decide))
   | (simp at h5;omega)
 cases hwl with
 | cons w1 w2=>
  cases w2;cases w1 with
  | list ho uy=>exact⟨_,_,ns,rfl,rfl,ho,Ii ns _ uy,hlen⟩
theorem Pr(l:Ay1)(args:List WData):l.row.toRowW.claim.post args (.bool true) args=true:=
 postW_of (r:=l.row.toRowW) (X:=(true == true))
  (show WShape.has [] (.bool true) .bool=true by first | rfl | decide | simp[WShape.has,WShape.arms,WShape.armsAll])
  (show (WTm.eq .res (.lit (.bool true))).value [] { args:=args,res:=aS (.bool true),after:=args }=aS (.bool (true == true)) from w_eq_bool (w_res rfl) w_lit) rfl
theorem mO{l:Ay1}{d:DefRec}
  (hn:l.most=aS n) (uz:d.params.defaults=[])
  (call:∀(w:bg) (s₀ s₁:aT) (mg mb:Str->Option Value) (fa:Addr) (o:Obj) (pm cd doc:Value) (a:Addr) (vs:List Value) (ns:List Int),
   Ground q loose [] XP w s₀ mg mb s₁.heap->YP w s₁.heap->
   s₁.heap.get? fa=aS o->o.data= .func (docDef d.name d.params d.body d.scope pm cd doc)->s₁.heap.CodeRec cd d.name->mg d.name=aS (.ref fa)->
   s₁.heap.get? a=aS { cls:= .type "list",data:= .seq vs.toArray }->IntsAre vs ns->ns.length<=n->s₁.gens= #[]->
   An3 (aX l.prog w) callerA (.call (.ref fa) ⟨[.ref a],[]⟩) (λr s'=>r= .ok (.ret (.bool true))/\OldK s₁.heap s'.heap/\s'.os=s₁.os/\Av9 s'.gens) s₁):
  WalkO q loose XP YP l.row.toRowW d [] (λf vs=>PySem.call f vs):=by
 intro w s₀ s₁ mg mb G Y fa o pm cd doc dV kV ho hd je hD xq hg args vals as rW aaN hrd hwl hlo;obtain rfl:dV= .none:=Dflts.none hD uz;obtain rfl:kV= .none:=Dflts.noKw hD;obtain⟨a,vs,ns,rfl,rfl,lP,hints,hlen⟩:=Po hn rW hwl;refine enter_call (Ao3 (call w s₀ s₁ mg mb fa o pm cd doc a vs ns G Y ho (fd_plain hd) je xq lP hints hlen hg) λr s' hq=>?_);obtain⟨rfl,h2,h3,h4⟩:=hq;exact⟨.inl ⟨.bool true, .bool true,[],rfl,λ_=>rfl, .bool true,Pr l _,λ_=>⟨AA5,λ_ hm=>(nomatch hm)⟩⟩,h2,h3,h4⟩
end Att
namespace L2
open PySem PySem.Spec PyProof.Rows
theorem KS:∀{vs:List Value} {ns:List Int},IntsAre vs ns->Vals (ns.map V.int) vs
 | _,_, .nil=> .nil
 | _,_, .cons n t h=> .cons ⟨t,rfl⟩ (KS h)
noncomputable abbrev c6:qB:=λ_ _ _ _ _ _=>False
noncomputable abbrev E0:XK:=λ_ _ _=>False
theorem QM:Ci c6 X E0:=λ_ _ _ _ _ _ _ h=>h.elim
structure cR(K:aU)(x qual:Str)(st:Stmt)(f:Addr)(fd:Am7):Prop where
 ex:∃(oc:Value) (od:Option Addr) (kV doc pm:Value) (an:Option Addr) (gk ct:Value) (qk:Array (Option Value)),
  fd=Au1 x qual (GN st) (CM st) (Ah st) .none kV doc pm an gk ct/\K.lookup f=aS ⟨oc,od, .func fd,qk⟩/\AA3 K gk qual=true
 kp:Ak7 K (.ref f)=true
section
variable {base:Heap}
theorem cR.ok{st:Stmt}(F:cR K x qual st f fd)(S:bz N ps (Ah st))(len:∀vs H Q E,sp vs H Q E->vs.length=ps.length)
  (jz:∀(gk:Value) (A:An2) (bw:List Env) (s:aT) (H:Hp) (vs:List V) (Q:VK) (E:XK),cJ k (A.deeper (envOfC qual (Ah st) s.heap.objs.size f gk))->sp vs H Q E->
   ∃t,lK (AZ c6 P w K mg base N qual (Ah st) f gk A bw s H E).uc (CM st) t/\t { nx:=λ_ H'=>Q .bC H',rt:=Q } (start N vs) H):bQ P w K mg base c6 (k+1) f fd ps sp:=by
 obtain⟨oc,od,kV,doc,pm,an,gk,ct,qk,rfl,lk,je⟩:=F.ex;refine QL lk je S len λA bw s H vs Q E hr oq=>?_;obtain⟨t,h,q⟩:=jz gk A bw s H vs Q E hr oq;exact⟨t,h.uc,q⟩
theorem qG{st:Stmt}{kV doc pm gk ct:Value}(l:K.lookup f=aS ⟨oc,od, .func (Au1 x qual (GN st) (CM st) (Ah st) .none kV doc pm an gk ct),qk⟩)
 (c:AA3 K gk qual=true) (k:Ak7 K (.ref f)=true):cR K x qual st f (Au1 x qual (GN st) (CM st) (Ah st) .none kV doc pm an gk ct):=⟨⟨oc,od,kV,doc,pm,an,gk,ct,qk,rfl,l,c⟩,k⟩
end
section
theorem pv(i:Nat)(hN:X.N[i]?=aS x:=by rfl)(hv:yV X.env.scope x:=by first | exact Ao0 rfl | exact AF3 (Ao0 rfl) | exact AF3 (AF3 rfl))(hd:(x == ("__debug__":Str))=false:=by decide)
 (je:(x == ("__classdict__":Str))=false:=by decide):PE X (.Name x pos) (N0 i):=VH hN hv hd je
end
theorem Qo{A:Prop}(h:B):if false=true then A else B:=by
 rw[bG Ab3];exact h
theorem Mq{A:Prop}(h:A):if true=true then A else B:=by
 rw[bS rfl];exact h
noncomputable def Same(H H':Hp):Prop:=∀b o,H b=aS o->H' b=aS o
theorem Same.refl(H:Hp):Same H H:=λ_ _ h=>h
theorem Same.trans(a:Same H H1)(b:Same H1 H2):Same H H2:=λc o h=>b c o (a c o h)
theorem Same.free(e:Same H H')(h:H' l=aV):H l=aV:=by
 cases q:H l with
 | none=>rfl
 | some o=>
  rw[e l o q] at h;cases h
theorem Same.seq(e:Same H H')(h:bx K H a xs):bx K H' a xs:=by
 rcases h with (h | ⟨o,h⟩) | h
 .exact .inl (.inl (e _ _ h))
 .exact .inl (.inr ⟨o,e _ _ h⟩)
 .exact .inr h
section
variable {κ:Type}[DecidableEq κ]
noncomputable def Eg(bN:List (κ×V))(k:κ):Option V:=(bN.find? λkv=>decide (kv.1=k)).map (·.2)
noncomputable def DL(bN:List (κ×V))(k:κ)(v:V):List (κ×V):=
 if (bN.any λkv=>decide (kv.1=k))=true then bN.map (λkv=>if kv.1=k then (kv.1,v) else kv) else bN++[(k,v)]
theorem JF{k:κ}(e:p.1=k):Eg (p::r) k=aS p.2:=by simp[Eg,Ar9,e]
theorem Jd{k:κ}(e:¬ p.1=k):Eg (p::r) k=Eg r k:=by simp[Eg,Ar9,e]
theorem Nc(k:κ):∀bN:List (κ×V),(bN.any λkv=>decide (kv.1=k))=(Eg bN k).isSome
 | []=>rfl
 | p::r=>by
  rw[Ay0];by_cases e:p.1=k
  .simp only[JF e,iT e,Bool.true_or,Option.isSome_some]
  .rw[Jd e,lI e,Bool.false_or];exact Nc k r
theorem Fo(bN:List (κ×V))(k:κ)(v:V):(DL bN k v).length<=bN.length+1:=by
 unfold DL;split
 .rw[Aa0];omega
 .rw[Aa5,Aa9,Ah5];omega
theorem fq.pQ{o:Option V}{u:Option Value}(r:fq o u):o.isSome=u.isSome:=by
 cases o with
 | none=>cases u with
  | none=>rfl
  | some _=>exact(show False from r).elim
 | some _=>cases u with
  | none=>exact(show False from r).elim
  | some _=>rfl
theorem KV.val{bN:List (κ×V)}(r:KV bN vs)(k:κ):fq (Eg bN k) (valueAt vs k):=by
 unfold KV at r
 induction r with
 | nil=>exact Ak5
 | @cons p q ps qs h t ih=>
  obtain⟨h1,h2⟩:=h;by_cases e:p.1=k
  .have e':q.1=k:=h1.symm.trans e;have b:valueAt (q::qs) k=aS q.2:=by simp[valueAt,Ar9,e']
   rw[JF e,b];exact h2
  .have e':¬ q.1=k:=λz=>e (h1.trans z);have b:valueAt (q::qs) k=valueAt qs k:=by simp[valueAt,Ar9,e']
   rw[Jd e,b];exact ih
theorem KV.any{bN:List (κ×V)}{vs:List (κ×Value)}(r:KV bN vs)(k:κ):(bN.any λkv=>decide (kv.1=k))=vs.any λkv=>decide (kv.1=k):=by
 unfold KV at r
 induction r with
 | nil=>rfl
 | cons h t ih=>rw[Ay0,Ay0,ih,h.1]
theorem KV.uA{bN:List (κ×V)}{vs:List (κ×Value)}(r:KV bN vs)(k:κ)(ry:RelV y u):
  KV (bN.map λkv=>if kv.1=k then (kv.1,y) else kv) (vs.map λkv=>if kv.1=k then (kv.1,u) else kv):=by
 unfold KV at r ⊢
 induction r with
 | nil=>exact .nil
 | @cons p q ps qs h t ih=>
  rw[Ac3,Ac3];refine .cons ?_ ih;obtain⟨h1,h2⟩:=h;by_cases e:p.1=k
  .rw[bS e,bS (h1.symm.trans e)];exact⟨h1,ry⟩
  .rw[bG e,bG (λz=>e (h1.trans z))];exact⟨h1,h2⟩
theorem KV.put{bN:List (κ×V)}(r:KV bN vs)(k:κ)(ry:RelV y u):KV (DL bN k y) (stored vs k u):=by
 unfold DL stored;rw[r.any k];by_cases e:(vs.any λkv=>decide (kv.1=k))=true
 .rw[bS e,bS e];exact r.uA k ry
 .rw[bG e,bG e];exact Paired.snoc r ⟨rfl,ry⟩
theorem KV.length{bN:List (κ×V)}{vs:List (κ×Value)}(r:KV bN vs):bN.length=vs.length:=AI3 r
end
theorem O8(r:RelV (kV k) u):(Bv P w).is k u=true:=by
 cases k with
 | inl i=>obtain⟨t,e⟩:=(show ∃t,u=Av8 i t from r);subst e;exact Nf P w i t
 | inr x=>obtain⟨t,e⟩:=(show ∃t,u=Ay3 x t from r);subst e;exact MZ P w x t
theorem K1{P:Program}{w:bg}:∀{ks:List Key} {us:List Value},Vals (ks.map kV) us->ItemsAre (Bv P w) ks us
 | [],_,r=>by rw[At0] at r;cases r;exact .nil
 | k::ks,_,r=>by
  rw[Ac3] at r;cases r with
  | cons h t=>exact .cons (O8 h) (K1 t)
noncomputable abbrev KT(H:Hp):List (List Key×V)->List (List Key×Addr×Value)->Prop:=Paired λp q=>p.1=q.1/\H q.2.1=aS (.tup (p.1.map kV))/\RelV p.2 q.2.2
theorem KT.val{bN:List (List Key×V)}{xs:List (List Key×Addr×Value)}(r:KT H bN xs)(k:List Key):fq (Eg bN k) ((atKey xs k).map (·.2)):=by
 induction r with
 | nil=>exact Ak5
 | @cons p q ps qs h t ih=>
  obtain⟨h1,_,h2⟩:=h;by_cases e:p.1=k
  .have e':q.1=k:=h1.symm.trans e;have b:atKey (q::qs) k=aS q.2:=by simp[atKey,Ar9,e']
   rw[JF e,b];exact h2
  .have e':¬ q.1=k:=λz=>e (h1.trans z);have b:atKey (q::qs) k=atKey qs k:=by simp[atKey,Ar9,e']
   rw[Jd e,b];exact ih
theorem KT.uA{bN:List (List Key×V)}{xs:List (List Key×Addr×Value)}(r:KT H bN xs)(k:List Key)(ry:RelV y u):
  KT H (bN.map λkv=>if kv.1=k then (kv.1,y) else kv) (xs.map (putAt k u)):=by
 induction r with
 | nil=>exact .nil
 | @cons p q ps qs h t ih=>
  rw[Ac3,Ac3];refine .cons ?_ ih;obtain⟨h1,h2,h3⟩:=h;unfold putAt;by_cases e:p.1=k
  .rw[bS e,bS (h1.symm.trans e)];exact⟨h1,h2,ry⟩
  .rw[bG e,bG (λz=>e (h1.trans z))];exact⟨h1,h2,h3⟩
theorem KT.put{bN:List (List Key×V)}{xs:List (List Key×Addr×Value)}(r:KT H bN xs)(k:List Key)(hb:H b=aS (.tup (k.map kV)))(ry:RelV y u):
  KT H (DL bN k y) (storedH xs k b u):=by
 have e:(bN.any λkv=>decide (kv.1=k))=(atKey xs k).isSome:=by
  rw[Nc,(r.val k).pQ,Option.isSome_map]
 unfold DL storedH;rw[e];by_cases q:(atKey xs k).isSome=true
 .rw[bS q,bS q];exact r.uA k ry
 .rw[bG q,bG q];exact Paired.snoc r ⟨rfl,hb,ry⟩
theorem KT.keeps{bN:List (List Key×V)}{xs:List (List Key×Addr×Value)}(r:KT H bN xs)(ht:∀b ys,H b=aS (.tup ys)->H' b=aS (.tup ys)):KT H' bN xs:=
 Paired.tZ r λ_ _ z=>⟨z.1,ht _ _ z.2.1,z.2.2⟩
section
variable {a:Addr}
theorem UO(ok:fM P w H h)(e:Rd H a u):bK P w H h a u:=e.ok ok
theorem RQ(ok:fM P w H h)(e:Rd H a (.dK bN)):bN.length<=sizeLine/\(a == At3)=false/\∃vs,KV bN vs/\h.DictOf (Bv P w) a vs:=
 show bK P w H h a (.dK bN) from UO ok e
theorem UX(ok:fM P w H h)(e:H a=aS (.dK bN)):bN.length<=sizeLine/\(a == At3)=false/\∃vs,KV bN vs/\h.DictOf (Bv P w) a vs:=RQ ok (.inl e)
theorem Oa{ks:List Key}(ok:fM P w H h)(e:H a=aS (.tup (ks.map kV))):(tupleKind (Bv P w)).is h ks a:=by
 obtain⟨_,its,r,o,h1,h2,n,h3⟩:=(show bK P w H h a (.tup (ks.map kV)) from ok a _ e);exact⟨o,its.toArray,n,h1,h2,h3,by simpa using K1 r⟩
theorem Sn{bN:List (List Key×V)}(ok:fM P w H h)(e:Rd H a (.dT bN)):bN.length<=sizeLine/\(a == At3)=false/\
  ∃xs,KT H bN xs/\h.DictOfH (tupleKind (Bv P w)) a xs:=by
 obtain⟨z,y,xs,r,o,es,ep,h1,h2,h3,h4,h5⟩:=(show bK P w H h a (.dT bN) from UO ok e);refine⟨z,y,xs,r,o,es,ep,h1,h2,h3,h4,λx hx=>?_,h5⟩;have all:∀{l:List (List Key×V)} {m:List (List Key×Addr×Value)},KT H l m->∀x∈m,(tupleKind (Bv P w)).is h x.1 x.2.1:=by
  intro l m q
  induction q with
  | nil=>intro x hx;exact nomatch hx
  | @cons p q ps qs hq t ih=>
   intro x hx;rcases Aa7.mp hx with e | hx
   .subst e;exact Oa ok (by rw[<-hq.1];exact hq.2.1)
   .exact ih x hx
 exact all r x hx
theorem Xs{bN:List (List Key×V)}(ok:fM P w H h)(e:H a=aS (.dT bN)):bN.length<=sizeLine/\(a == At3)=false/\
 ∃xs,KT H bN xs/\h.DictOfH (tupleKind (Bv P w)) a xs:=Sn ok (.inl e)
end
noncomputable def mP(H:Hp)(a:Addr)(y:V)(r:Option V):Prop:=
 (∃bN k,Rd H a (.dK bN)/\y=kV k/\r=Eg bN k)\/∃bN k b,Rd H a (.dT bN)/\y= .ref b/\H b=aS (.tup (k.map kV))/\r=Eg bN k
noncomputable def mQ(H:Hp)(a:Addr)(y v:V)(H':Hp):Prop:=
 (∃bN k,H a=aS (.dK bN)/\y=kV k/\bN.length<sizeLine/\H'=upd H a (.dK (DL bN k v)))\/
 ∃bN k b,H a=aS (.dT bN)/\y= .ref b/\H b=aS (.tup (k.map kV))/\bN.length<sizeLine/\H'=upd H a (.dT (DL bN k v))
theorem mP.k{H:Hp}{a:Addr}{bN:List (Key×V)}{k:Key}(e:H a=aS (.dK bN)):mP H a (kV k) (Eg bN k):= .inl ⟨bN,k, .inl e,rfl,rfl⟩
theorem mQ.k{H:Hp}{a:Addr}{bN:List (Key×V)}{k:Key}{v:V}(e:H a=aS (.dK bN))(hl:bN.length<sizeLine):mQ H a (kV k) v (upd H a (.dK (DL bN k v))):= .inl ⟨bN,k,e,rfl,hl,rfl⟩
section
variable {s:aT}{a:Addr}{u r:Value}{o:Option V}
theorem Inv.big(I:Inv X bu σ H s):At3<s.heap.objs.size:=by
 have h:Al3<s.heap.objs.size:=(I.mod.glob.keeps I.bk).lt;exact Nat.lt_trans (by decide) h
theorem PF{Q:Value->aT->Prop}(hu:A.units+1<cLine)(I:Inv X bu σ H s)(g:mP H a y (aS v))(ry:RelV y u)(h:∀w' s',Inv X bu σ H s'->RelV v w'->Q w' s'):
  aW (aX X.prog X.w) A (getItem (.ref a) u) Q E s:=by
 rcases g with ⟨bN,k,e,ey,l⟩ | ⟨bN,k,b,e,ey,eb,l⟩
 .subst ey;obtain⟨z,hd,vs,rel,dd⟩:=RQ I.bO e;obtain⟨w',hw,jY⟩:=fq.some_of (v:=v) (o:=valueAt vs k) (by rw[l];exact rel.val k);exact wpAny_getItem_of (O8 ry) dd.mapOf hw (h w' _ (I.tok _) jY)
 .subst ey;cases (show u=aY b from ry);obtain⟨z,hd,xs,rel,dd⟩:=Sn I.bO e;obtain⟨w',hw,jY⟩:=fq.some_of (v:=v) (o:=(atKey xs k).map (·.2)) (by rw[l];exact rel.val k);obtain⟨p,hp,pR⟩:=Ae5.mp hw;refine wpAny_getItem_heap (tupleKind_room_in1 hu) (Oa I.bO eb) dd hp ?_;rw[pR];exact h w' _ (I.tok _) jY
theorem Lh(I:Inv X bu σ H s)(mu:wU (H a))(hs:Ao8 a s.heap h')(he:∃q,h'.get? a=aS q)(new:bK X.prog X.w (upd H a ob) h' a ob):
  Inv X bu σ (upd H a ob) { s with heap:=h',toks:=t' }:=
 I.write (x:=a) (e:=a) mu (.inl rfl) (λb q hb z=>(hs.2 b hb).trans z) he new
theorem Rr(z:bN.length<=sizeLine)(hd:(a == At3)=false)(rel:KV bN vs)(dd:h'.DictOf (Bv P w) a vs):
 bK P w H' h' a (.dK bN):=⟨z,hd,vs,rel,dd⟩
theorem Py{Q:Unit->aT->Prop}(hu:A.units+1<cLine)(I:Inv X bu σ H s)(g:mQ H a y v H')(ry:RelV y u)(rv:RelV v r)(h:∀s',Inv X bu σ H' s'->Q () s'):
  aW (aX X.prog X.w) A (setItem (.ref a) u r) Q E s:=by
 rcases g with ⟨bN,k,e,ey,l,eH⟩ | ⟨bN,k,b,e,ey,eb,l,eH⟩
 .subst ey eH;obtain⟨z,hd,vs,rel,dd⟩:=UX I.bO e;have hz:vs.length<=sizeLine:=by rw[<-rel.length];exact z
  have hl:(DL bN k v).length<=sizeLine:=by have:=Fo bN k v;omega
  refine wpAny_setItem_pairs (hsz:=hz) (O8 ry) dd λh' uB hs=>h _ ?_;have he:∃q,h'.get? a=aS q:=let ⟨q,_,_,hq,_⟩:=uB;⟨q,hq⟩;exact Lh I (by rw[e];exact Ak5) hs he (Rr hl hd (rel.put k rv) uB)
 .subst ey eH;cases (show u=aY b from ry);obtain⟨z,hd,xs,rel,dd⟩:=Xs I.bO e;have hz:xs.length<=sizeLine:=by rw[<-AI3 rel];exact z
  have hl:(DL bN k v).length<=sizeLine:=by have:=Fo bN k v;omega
  refine wpAny_setItem_heap (hsz:=hz) (tupleKind_room_in1 hu) (Oa I.bO eb) dd λh' uB hs=>h _ ?_;obtain⟨q,es,ep,hq,h2,h3,h4,_,h5⟩:=uB;refine Lh I (by rw[e];exact Ak5) hs ⟨q,hq⟩ ⟨hl,hd,_,(rel.put k eb rv).keeps λc ys ec=>?_,q,es,ep,hq,h2,h3,h4,h5⟩;rw[An (GQ ec e (λz=>nomatch z))];exact ec
end
noncomputable def Xu(i:br):Prop:=∀ov iv,subscripted i false ov iv=operate [ov,iv] (getItem ov iv)
theorem Td{id:String}{Q:Value->aT->Prop}
  (hl:typeLookup (.type T) "__getitem__"=pure (aS (.builtin id))) (hs:Xu slice)
  (h:aW (aX prog w) A (bh value env) (λo s₁=>aW (aX prog w) A (bh slice env) (λi s₂=>s₂.TypeIs o T/\aW (aX prog w) A (getItem o i) Q E s₂) E s₁) E s):
  aW (aX prog w) A (bh (.Subscript value slice pos) env) Q E s:=by
 refine Subscript_ (Ac7 h (λo s₁ h₁=>Ac7 h₁ (λi s₂ h₂=>?_) λ_ _ x=>x) λ_ _ x=>x);obtain⟨hT,h₂⟩:=h₂;unfold subscriptTail;refine Aa1 ?_;rw[getitemInPython_of_ne hT.not_modules];refine Aa1 (wpAny_specialOf hT hl ?_);have fin:aW (aX prog w) A (subscripted slice false o i) (λr s₃=>aW (aX prog w) A (letTemporaryGo value o r >>= λ_=>pure r) Q E s₃) E s₂:=by
  rw[hs o i];exact wpAny_operating (Ac7 h₂ (λr s₃ h₃=>Aa1 (wpAny_letTemporaryGo (Ab2 h₃))) λ_ _ x=>x)
 first
  | exact Ab2 (Aa1 fin)
  | exact Aa1 (Ab2 (Aa1 fin))
  | exact Aa1 fin
theorem MH{s:aT}(I:Inv X bu σ H s)(g:mP H a y o):s.TypeIs (.ref a) "dict":=by
 rcases g with ⟨bN,k,e,_,_⟩ | ⟨bN,k,b,e,_,_,_⟩
 .obtain⟨_,_,vs,_,dd⟩:=RQ I.bO e;exact dd.typeIs
 .obtain⟨_,_,xs,_,dd⟩:=Sn I.bO e;exact dd.typeIs
noncomputable def UK(td ty:TE):TE:=λσ H Q=>td σ H λx H1=>ty σ H1 λy H2=>∃a v,x= .ref a/\mP H2 a y (aS v)/\Q v H2
noncomputable def UL(td ty tv:TE):TS:=λD σ H=>tv σ H λv H1=>td σ H1 λx H2=>ty σ H2 λy H3=>∃a H4,x= .ref a/\mQ H3 a y v H4/\D.nx σ H4
section
variable {o i value:br}{pos' oh:Pos}{td ty tv:TE}
theorem Ay(hu:X.A.units+1<cLine)(ho:PE X o td)(hi:PE X i ty)(hs:Xu i):PE X (.Subscript o i pos) (UK td ty):=by
 intro bu s σ H Q I h;refine Td PySem.F.slot_dict_getitem.lookup hs (bZ (ho bu s σ H _ I h) λu s1 ⟨x,H1,I1,rx,q1⟩=>bZ (hi bu s1 σ H1 _ I1 q1) λiv s2 ⟨y,H2,I2,ry,a,v,ex,g,q2⟩=>?_);subst ex;obtain rfl:u=aY a:=rx;exact⟨MH I2 g,PF hu I2 g ry λw' s3 I3 jY=>⟨v,H2,I3,jY,q2⟩⟩
theorem Bj(hu:X.A.units+1<cLine)(ho:PE X o td)(hi:PE X i ty)(hv:PE X value tv)(hs:Av3 value (aS (.Subscript o i pos')) pos.line X.env=pure false):
  PS X (.Assign [.Subscript o i pos'] value pos) (UL td ty tv):=by
 intro bu s σ H D I h;refine wpAny_Assign_Subscript (bZ (hv bu s σ H _ I h) λr s1 ⟨v,H1,I1,rv,q1⟩=>bZ (ho bu s1 σ H1 _ I1 q1) λu s2 ⟨x,H2,I2,rx,q2⟩=>bZ (hi bu s2 σ H2 _ I2 q2) λiv s3 ⟨y,H3,I3,ry,a,H4,ex,g,q3⟩=>?_) hs;subst ex;obtain rfl:u=aY a:=rx;exact Py hu I3 g ry rv λs4 I4=>⟨σ,H4,I4,q3⟩
end
theorem MD(h:Heap)(hb:At3<h.objs.size):bK P w H (h.push { cls:= .type "dict",data:= .dict #[] }) h.objs.size (.dK []):=
 ⟨Ad4 _,beq_eq_false_iff_ne.mpr (Ak9 (Ac8 hb)),[], .nil,Heap.DictOf.new h⟩
noncomputable def Wn:TE:=λ_ H Q=>∀p,H p=aV->Q (.ref p) (upd H p (.dK []))
section
theorem RX:PE X (.Dict [] [] pos) Wn:=λbu s σ H Q I h=>
 wpAny_Dict_empty ⟨.ref s.heap.objs.size,_,I.laid (a:=s.heap.objs.size) (o:= .dK []) (t':=s.toks) (λ_ _ q=>Aa4 _ q) (Aa6 _) (MD s.heap I.big),rfl,h _ (I.bO.fresh (Aa6 _))⟩
end
noncomputable def Ga:List (TE×TE)->St->Hp->(List (V×V)->Hp->Prop)->Prop
 | [],_,H,Q=>Q [] H
 | (tk,tv)::r,σ,H,Q=>tk σ H λx H1=>tv σ H1 λy H2=>Ga r σ H2 λps H3=>Q ((x,y)::ps) H3
noncomputable abbrev VV:List (V×V)->List (Value×Value)->Prop:=Paired λp q=>RelV p.1 q.1/\RelV p.2 q.2
noncomputable def zg(X:Cx)(pos:Pos)(keys:List (Option br))(values:List br)(ql:List (TE×TE)):Prop:=
 ∀(bu:List (Addr×Obj)) (s:aT) (σ:St) (H:Hp) (Q:List (V×V)->Hp->Prop),Inv X bu σ H s->Ga ql σ H Q->
  aW (aX X.prog X.w) X.A (evalPairs (pairTrees keys values X.env pos)) (λvs s'=>∃ps H',Inv X bu σ H' s'/\VV ps vs/\Q ps H') X.xe s
theorem OC:zg X pos [] [] []:=λbu s σ H Q I h=>pairTrees_nil_walk ⟨[],H,I, .nil,h⟩
theorem C6{k v:br}(hk:PE X k tk)(hv:PE X v tv)(hr:zg X pos ks vs ql):
  zg X pos (aS k::ks) (v::vs) ((tk,tv)::ql):=λbu s σ H Q I h=>
 pairTrees_cons_walk (bZ (hk bu s σ H _ I h) λu s1 ⟨x,H1,I1,rx,q1⟩=>bZ (hv bu s1 σ H1 _ I1 q1) λw2 s2 ⟨y,H2,I2,ry,q2⟩=>
  bZ (hr bu s2 σ H2 _ I2 q2) λws s3 ⟨ps,H3,I3,rel,q3⟩=>⟨(x,y)::ps,H3,I3, .cons ⟨rx,ry⟩ rel,q3⟩)
noncomputable def Hh(bN more:List (Key×V)):List (Key×V):=more.foldl (λacc kv=>DL acc kv.1 kv.2) bN
theorem KV.merge:∀{more:List (Key×V)} {rs:List (Key×Value)} {bN:List (Key×V)} {vs:List (Key×Value)},KV more rs->KV bN vs->KV (Hh bN more) (merged vs rs):=by
 intro more rs bN vs r;unfold KV at r
 induction r generalizing bN vs with
 | nil=>intro q;exact q
 | @cons p q ps qs h t ih=>
  intro r0;have e:KV (DL bN p.1 p.2) (stored vs q.1 q.2):=by
   have:=r0.put p.1 h.2;rw[<-h.1];exact this
  exact ih e
theorem F5:∀(more bN:List (Key×V)),(Hh bN more).length<=bN.length+more.length
 | [],bN=>by show bN.length<=bN.length+0;omega
 | p::r,bN=>by
  have h1:=F5 r (DL bN p.1 p.2);have h2:=Fo bN p.1 p.2;show (Hh (DL bN p.1 p.2) r).length<=_;rw[Aa9];omega
theorem Jk{P:Program}{w:bg}:∀{bN:List (Key×V)} {ws:List (Value×Value)},VV (bN.map λkv=>(kV kv.1,kv.2)) ws->∃rs,Carries (Bv P w) ws rs/\KV bN rs
 | [],_,r=>by rw[At0] at r;cases r;exact⟨[],Ak5, .nil⟩
 | p::bN,_,r=>by
  rw[Ac3] at r;cases r with
  | @cons a b as bs h t=>
   obtain⟨rs,c,q⟩:=Jk (P:=P) (w:=w) t;obtain⟨b1,b2⟩:=b;exact⟨(p.1,b2)::rs,⟨O8 h.1,rfl,c⟩, .cons ⟨rfl,h.2⟩ q⟩
noncomputable def UW(ql:List (TE×TE)):TE:=λσ H Q=>∀p,H p=aV->Ga ql σ (upd H p (.dK [])) λps H2=>H2 p=aS (.dK [])/\∃bN:List (Key×V),ps=bN.map (λkv=>(kV kv.1,kv.2))/\bN.length<=15/\Q (.ref p) (upd H2 p (.dK (Hh [] bN)))
theorem OV{keys:List (Option br)}{values:List br}(h:zg X pos keys values ql)(uy:keys.all (·.isSome)=true)(hl:keys.length=values.length)(h0:keys≠[])
  (h15:keys.length<=15):PE X (.Dict keys values pos) (UW ql):=by
 intro bu s σ H Q I q;have hn:=I.bO.fresh (Aa6 s.heap.objs.size);have I1:=I.laid (a:=s.heap.objs.size) (o:= .dK []) (h':=s.heap.push { cls:= .type "dict",data:= .dict #[] }) (t':=s.toks) (λ_ _ q=>Aa4 _ q) (Aa6 _) (MD s.heap I.big);refine wpAny_Dict_walk (knd:=Bv X.prog X.w) uy hl h0 h15 (bZ (h bu _ σ _ _ I1 (q _ hn)) λws s2 ⟨ps,H2,I2,rel,e,bN,ep,lk,q2⟩=>?_);subst ep;obtain⟨rs,c,rk⟩:=Jk (P:=X.prog) (w:=X.w) rel;obtain⟨z,hd,vs0,r0,dd⟩:=UX I2.bO e;cases r0;refine⟨rs,c,dd,λh' uB hs=>⟨.ref s.heap.objs.size,_,?_,rfl,q2⟩⟩;have hz:(Hh [] bN).length<=sizeLine:=by
  have h1:=F5 bN [];rw[Ah5] at h1;rw[Aj9];omega
 have he:∃q,h'.get? s.heap.objs.size=aS q:=let ⟨q,_,_,hq,_⟩:=uB;⟨q,hq⟩;exact Lh I2 (by rw[e];exact Ak5) hs he (Rr hz hd (rk.merge .nil) uB)
noncomputable def AO(cells:List (Str×Addr)):List (Str×Al1)->List (Str×Addr)->List (Str×Addr)
 | [],acc=>acc
 | (n,k)::r,acc=>AO cells r (if k= .free then (match cells.lookup n with | some a=>(n,a)::acc | none=>acc) else acc)
theorem F3{env:Env}:∀(names:List (Str×Al1)) (acc:List (Str×Addr)),(∀y∈names,y.2= .free->∃c,env.cells.lookup y.1=aS c)->
  (forIn names acc λ(x:Str×Al1) (r:List (Str×Addr))=>
   (if (x.2 == Ak8)=true then (do let a <-cellOf env x.1;pure (Am1 ((x.1,a)::r))) else pure (Am1 r):Sem (ForInStep (List (Str×Addr)))))=(pure (AO env.cells names acc):Sem (List (Str×Addr)))
 | [],acc,_=>rfl
 | (n,k)::rest,acc,h=>by
  rw[AA6];have ih:=λaaj=>F3 (env:=env) rest aaj λy hy=>h y (Aa8 _ hy);by_cases hk:k= .free
  .subst hk;obtain⟨c,hc⟩:=h (n, .free) Ab0 rfl;have hc:env.cells.lookup n=aS c:=hc;have e:cellOf env n=pure c:=by unfold cellOf;rw[hc]
   simp only[beq_self_eq_true,if_true,e,pure_bind,AO,hc];exact ih _
  .have hb:(k == Ak8)=false:=by simpa using hk
   simp only[hb,As2,if_false,pure_bind,AO,bG hk];exact ih _
theorem Cu{env:Env}(h:∀y∈scope.names,y.2= .free->∃c,env.cells.lookup y.1=aS c):closureFor scope env=pure (AO env.cells scope.names []):=by
 have e:=F3 (env:=env) scope.names [] h;unfold closureFor;simp only[bind_pure_comp,bind_pure,map_pure] at*;exact e
theorem Gq{cells:List (Str×Addr)}:∀(names:List (Str×Al1)) (acc:List (Str×Addr)),(∀x c,acc.lookup x=aS c->cells.lookup x=aS c)->∀x c,(AO cells names acc).lookup x=aS c->cells.lookup x=aS c
 | [],acc,h,x,c,e=>h x c e
 | (n,k)::r,acc,h,x,c,e=>by
  refine Gq r _ ?_ x c e;intro y d q;split at q
  .split at q
   .rename_i a ha
    rw[Af2] at q;split at q
    .rename_i hy
     cases q;rw[eq_of_beq hy];exact ha
    .exact h y d q
   .exact h y d q
  .exact h y d q
theorem EJ{cells:List (Str×Addr)}:∀(names:List (Str×Al1)) (acc:List (Str×Addr)) (x:Str),(((x,Ak8)∈names/\∃c,cells.lookup x=aS c)\/∃c,acc.lookup x=aS c)->∃c,(AO cells names acc).lookup x=aS c
 | [],acc,x,h=>by
  rcases h with ⟨h,_⟩ | h
  .cases h
  .exact h
 | (n,k)::r,acc,x,h=>by
  refine EJ r _ x ?_;have up:(∃c,acc.lookup x=aS c)->∃c,(if k= .free then (match cells.lookup n with | some a=>(n,a)::acc | none=>acc) else acc).lookup x=aS c:=by
   rintro⟨c,hc⟩;split
   .split
    .rename_i a ha
     rw[Af2];split
     .exact⟨_,rfl⟩
     .exact⟨c,hc⟩
    .exact⟨c,hc⟩
   .exact⟨c,hc⟩
  rcases h with ⟨h,c,hc⟩ | h
  .rcases Aa7.mp h with e | e
   .cases e;right;refine⟨c,?_⟩;rw[bS rfl,hc,Af2,beq_self_eq_true]
   .exact .inl ⟨e,c,hc⟩
  .exact .inr (up h)
theorem Jz(env:Env)(x:Str):∀names:List (Str×Al1),
  (names.map λ(n,k)=>if (k == Ak8&&env.scope.kind == .function&&env.kindOf n == aS .cell) then (n,AB9) else (n,k)).lookup x=
   (names.lookup x).map λk=>if (k == Ak8&&env.scope.kind == .function&&env.kindOf x == aS .cell)=true then AB9 else k
 | []=>rfl
 | (n,k)::r=>by
  have ih:=Jz env x r;show Ai4 x ((if (k == Ak8&&env.scope.kind == .function&&env.kindOf n == aS .cell)=true then (n,AB9) else (n,k))::_)=_;cases hx:x == n with
  | true=>
   have e:x=n:=eq_of_beq hx;subst e;by_cases hc:(k == Ak8&&env.scope.kind == .function&&env.kindOf x == aS .cell)=true
   .rw[bS hc,Af2,Af2,beq_self_eq_true];simp only[Au5,bS hc]
   .rw[bG hc,Af2,Af2,beq_self_eq_true];simp only[Au5,bG hc]
  | false=>
   have e:(Ai4 x ((n,k)::r))=Ai4 x r:=by rw[Af2,hx]
   rw[e, <-ih];split <;> rw[Af2,hx]
structure c7(X:Cx)(scope:Scope)(own:List Str)(fr:List (Str×Nat)):Prop where
 kind:scope.kind= .function
 oB:∀y∈scope.names,y.2≠ .cell
 loc:∀y∈scope.names,y.2= .local->scope.names.lookup y.1=aS .local
 free:∀y∈scope.names,y.2= .free->(X.env.scope.names.lookup y.1=aS .cell\/X.env.scope.names.lookup y.1=aS .free)
 fr:∀p∈fr,X.N[p.2]?=aS p.1/\(p.1,Ak8)∈scope.names
 only:∀x,(x,Ak8)∈scope.names->scope.names.lookup x=aS .free
noncomputable def Bd(X:Cx)(scope:Scope)(own:List Str)(fr:List (Str×Nat))(C:Addr)(ex:List Addr)(s:aT)(H:Hp):Cx where
 prog:=X.prog
 w:=X.w
 K:=X.K
 mg:=X.mg
 base:=X.base
 A:=X.A
 N:=own++fr.map (·.1)
 s₀:=s
 H₀:=H
 env:=Au3 scope (AO X.env.cells scope.names []) C X.env
 bw:=X.stack
 stack:=X.stack
 ex:=ex
 fn:=λ_=>false
 calm:=X.calm
 pn:=[]
 xe:=λ_ _=>False
noncomputable def DW(own:List Str)(fr:List (Str×Nat))(σ:St):St:=own.map (λ_=>aV)++fr.map (λp=>(σ[p.2]?).getD aV)
section
variable {s:aT}{own:List Str}{fr:List (Str×Nat)}{fp:List Addr}
theorem c7.cells(S:c7 X scope own fr)(ok:X.Ok):∀y∈scope.names,y.2= .free->∃c,X.env.cells.lookup y.1=aS c:=λy hy e=>ok.has y.1 (S.free y hy e)
theorem Inv.block{m:Str->Option Value}(I:Inv X bu σ H s)(S:c7 X scope own fr)(hf:∀b∈fp,Dq X bu H b)(dZ:∀b∈fp,b<s.heap.objs.size)
  (qm:h'.Ns s.heap.objs.size m) (k:∀b o,s.heap.get? b=aS o->h'.get? b=aS o):
  Inv (Bd X scope own fr s.heap.objs.size fp s H) [] (DW own fr σ) H { s with heap:=h',toks:=t' }:=by
 have cs:∀x c,(AO X.env.cells scope.names []).lookup x=aS c->X.env.cells.lookup x=aS c:=Gq _ _ (λ_ _ e=>by simp at e);have ck:∀c v,s.heap.IsCell c v->h'.IsCell c v:=λc v ⟨o,ho,hd⟩=>⟨o,k _ _ ho,hd⟩;have kf:∀x,(x,Ak8)∈scope.names->∃c,X.env.cells.lookup x=aS c/\(AO X.env.cells scope.names []).lookup x=aS c:=λx hx=>by
  obtain⟨c0,e0⟩:=S.cells I.ok (x, .free) hx rfl;obtain⟨c,e⟩:=EJ (cells:=X.env.cells) scope.names [] x (.inl ⟨hx,c0,e0⟩);exact⟨c,cs _ _ e,e⟩
 have rel:∀x,(Au3 scope (AO X.env.cells scope.names []) s.heap.objs.size X.env).kindOf x=(scope.names.lookup x).map λk=>if (k == Ak8&&X.env.scope.kind == .function&&X.env.kindOf x == aS .cell)=true then AB9 else k:=λx=>Jz X.env x scope.names
 have nc:∀x,scope.names.lookup x≠aS .cell:=λx e=>S.oB _ (Am9 e) rfl;refine⟨⟨I.ok.mod,S.kind,I.ok.glob,I.ok.blt,Aa6 _,λx y c e1 e2=>I.ok.inj x y c (cs _ _ e1) (cs _ _ e2),λx hx=>?_,λx c e _=>(nomatch e),I.ok.hd,I.ok.frames, .inl rfl,
  λb hb=>⟨Ac8 (dZ b hb),λx c e=>(hf b hb).2.2.2.2.1 x c (cs _ _ e)⟩,I.bs,Ab4 I.ok.mH I.sz,λb o e hb=>?_,λb hb z=>(Aa7.mp (I.nU b z)).elim (hf b hb).2.1 (hf b hb).2.2.1,I.stack,I.dc⟩,
  rfl,I.bare,Un.kept k,⟨m,qm,λi x v e1 e2 e3=>?_⟩,λx c e=>?_,I.bO.fresh (Aa6 _),λx c e=>I.dH x c (cs _ _ e),λp hp=>bV (show p∈([]:List (Addr×Obj)) from hp) (by simp),I.bO.kept k,?_⟩
 .have hx:(Au3 scope (AO X.env.cells scope.names []) s.heap.objs.size X.env).kindOf x=aS .cell\/(Au3 scope (AO X.env.cells scope.names []) s.heap.objs.size X.env).kindOf x=aS .free:=hx;rw[rel x] at hx;have q:scope.names.lookup x=aS .free:=by
   cases e:scope.names.lookup x with
   | none=>rw[e] at hx;simp at hx
   | some kk=>
    rw[e] at hx;simp only[Au5,Ae1.injEq] at hx;by_cases hk:kk= .free
    .rw[hk]
    .have hb:(kk == Ak8)=false:=by simpa using hk
     simp only[hb,Af6,As2,if_false] at hx;rcases hx with hx | hx
     .rw[hx] at e;exact bV e (nc x)
     .exact bV hx hk
  obtain⟨c,_,e⟩:=kf x (Am9 q);exact⟨c,e⟩
 .rcases (hf b hb).2.2.2.1 with z | z
  .exact I.ok.lJ b o e z
  .exact bV (Ac6 (Ab1 (I.ok.bs b o e).1) z) (Ag7 _)
 .have e1:(own++fr.map (·.1))[i]?=aS x:=e1;have e2:(DW own fr σ)[i]?=aS (aS v):=e2;unfold DW at e2;by_cases hi:i<own.length
  .rw[Ad9 (by simpa using hi),Ac1] at e2;rw[Aa3 hi] at e2;simp at e2
  .rw[Ae3 (by simpa using hi),Ac1,Aa0] at e2;rw[Ae3 (by omega),Ac1] at e1;cases ep:fr[i - own.length]? with
   | none=>rw[ep] at e1;simp at e1
   | some p=>
    rw[ep] at e1 e2;simp only[Au5,Ae1.injEq] at e1 e2;subst e1;obtain⟨h1,h2⟩:=S.fr p (Ad0 ep);have e4:σ[p.2]?=aS (aS v):=by
     cases q:σ[p.2]? with
     | none=>rw[q] at e2;simp at e2
     | some z=>rw[q] at e2;simp at e2;rw[e2]
    have kx:=S.free _ h2 rfl;obtain⟨m0,hn0,hl0⟩:=I.loc;obtain⟨u,r,l⟩:=hl0 p.2 p.1 v h1 e4 (kx.elim (λz=> .inr (.inl z)) λz=> .inr (.inr z));refine⟨u,r,?_⟩;rcases l with ⟨z,_⟩ | ⟨_,c,hc,gQ⟩
    .have z:X.env.scope.names.lookup p.1=aS .local:=z;rcases kx with y | y <;> (rw[y] at z;cases z)
    .obtain⟨c',q1,q2⟩:=kf p.1 h2;rw[hc] at q1;cases q1;refine .inr ⟨?_,c,q2,ck _ _ gQ⟩;show (Au3 scope (AO X.env.cells scope.names []) s.heap.objs.size X.env).kindOf p.1=aS .cell\/(Au3 scope (AO X.env.cells scope.names []) s.heap.objs.size X.env).kindOf p.1=aS .free;have e3:(Au3 scope (AO X.env.cells scope.names []) s.heap.objs.size X.env).kindOf p.1=aS .local\/(Au3 scope (AO X.env.cells scope.names []) s.heap.objs.size X.env).kindOf p.1=aS .cell\/(Au3 scope (AO X.env.cells scope.names []) s.heap.objs.size X.env).kindOf p.1=aS .free:=e3;rcases e3 with e3 | e3
     .exfalso;rw[rel] at e3;cases e:scope.names.lookup p.1 with
      | none=>rw[e] at e3;cases e3
      | some kk=>
       rw[e] at e3;simp only[Au5,Ae1.injEq] at e3;by_cases hk:kk= .free
       .subst hk;split at e3 <;> cases e3
       .have hb:(kk == Ak8)=false:=by simpa using hk
        simp only[hb,Af6,As2,if_false] at e3;subst e3;have:=S.only p.1 h2;rw[this] at e;cases e
     .exact e3
 .obtain⟨v,z⟩:=I.cell x c (cs _ _ e);exact⟨v,ck _ _ z⟩
 .unfold DW;show _=(own++fr.map (·.1)).length;simp
end
theorem MI{it acc:Value}(I:Nat->aT->Prop)
  (turn:∀n s,I n s->aW (aX prog w) A (pyNext it) (λr s₁=>match r with
   | none=>R (.ok .next) s₁
   | some v=>aW (aX prog w) A (As9 target it v) (λ_ xr=>aW (aX prog w) A (Ax1 target env v) (λ_ s₂=>
    aW (aX prog w) A (forIn ifs true λc r=>if r=true then do let ok <-isTrue c env (bh c env);pure (Am1 ok) else pure (Am1 r)) (λok s₃=>
     if ok=true then aW (aX prog w) A (bh elt env) (λx s₄=>
      aW (aX prog w) A (call (.builtin "list.append") [acc,x]) (λ_ s₅=>∃m,m<n/\I m s₅) (λ_ _=>False) s₄) (λ_ _=>False) s₃
     else ∃m,m<n/\I m s₃) (λ_ _=>False) s₂) (λ_ _=>False) xr) (λ_ _=>False) s₁) (λ_ _=>False) s)
  (n:Nat) (h:I n s):An3 (aX prog w) A (.compLoop (.ListComp elt [⟨target,iter,ifs,0⟩] scope pos) 0 it acc env) R s:=by
 refine codeAny_loop rfl I (λn s hI=>?_) n h;show aW _ A ((compTurn (.ListComp elt [⟨target,iter,ifs,0⟩] scope pos) 0 it acc env).onRaise (λx=>do Ao9 x env;theTreesLotGoes x)) _ _ s;refine wpAny_noted ?_;rw[compTurn_list];refine Aa1 (Ag1 (Aa1 (Ac7 (turn n s hI) (λr s₁ h₁=>?_) λ_ _ f=>f.elim)));cases r with
 | none=>exact Ab2 h₁
 | some v=>
  refine Aa1 (Ac7 h₁ (λ_ xr h₁'=>Aa1 (Ac7 h₁' (λ_ s₂ h₂=>Aa1 (Ac7 h₂ (λok s₃ h₃=>?_) λ_ _ f=>f.elim)) λ_ _ f=>f.elim)) λ_ _ f=>f.elim);cases ok with
  | false=>exact Ab2 ⟨rfl,h₃⟩
  | true=>
   exact Aa1 (Aa1 (Ac7 h₃ (λx s₄ h₄=>Aa1 (Ac7 h₄ (λ_ s₅ h₅=>Ab2 (Ab2 ⟨rfl,h₅⟩)) λ_ _ f=>f.elim)) λ_ _ f=>f.elim))
section
noncomputable def pT(X:Cx)(ifs:List br)(tc:TT):Prop:=
 ∀(bu:List (Addr×Obj)) (s:aT) (σ:St) (H:Hp) (Q:Bool->Hp->Prop),Inv X bu σ H s->tc σ H Q->
  aW (aX X.prog X.w) X.A (forIn ifs true λc r=>if r=true then do let ok <-isTrue c X.env (bh c X.env);pure (Am1 ok) else pure (Am1 r)) (TP X bu σ Q) X.xe s
noncomputable def MQ:TT:=λ_ H Q=>Q true H
theorem AC:pT X [] MQ:=λ_ _ _ H _ I h=>wpAny_tests_nil ⟨H,I,h⟩
theorem GR(h:PT X c tc):pT X [c] tc:=λbu s σ H Q I q=>wpAny_tests_one (h bu s σ H Q I q)
noncomputable def Kp(σ0 σ:St):Prop:=σ.length=σ0.length/\∀(i:Nat) (v:V),σ0[i]?=aS (aS v)->σ[i]?=aS (aS v)
theorem Kp.refl(σ:St):Kp σ σ:=⟨rfl,λ_ _ h=>h⟩
theorem Kp.set(k:Kp σ0 σ)(h:σ0[i]?=aS aV):Kp σ0 (σ.set i (aS v)):=by
 refine⟨by rw[List.length_set];exact k.1,λj u e=>?_⟩;by_cases hj:i=j
 .subst hj;rw[h] at e;cases e
 .rw[Au4 hj];exact k.2 j u e
noncomputable def DX(J:It)(σ0:St)(g:TG)(tc:TT)(te:TE)(Q:VK)(H1:Hp)(D:Addr):Prop:=
 ∃W:Nat->Nat->List V->Hp->Prop,(∃m,W 0 m [] (upd H1 D (.lst [])))/\∀i m ys H,W i m ys H->
  (J.stop i H/\Q (.ref D) H)\/(J.go i H/\∃N:List V->Hp->Prop,(∀ku H',N ku H'->∃m',m'<m/\W (i+1) m' ku H')/\∀x H',J.jM i H x H'->g x σ0 H' λσ2 H2=>Kp σ0 σ2/\tc σ2 H2 λb H3=>
   if b=true then te σ2 H3 λy H4=>H4 D=aS (.lst ys)/\ys.length<sizeLine/\N (ys++[y]) (upd H4 D (.lst (ys++[y]))) else N ys H3)
noncomputable def G9(wi:TI)(own:List Str)(fr:List (Str×Nat))(g:TG)(tc:TT)(te:TE):TE:=λσ H Q=>wi σ H λJ H1=>∀D,H1 D=aV->DX J (DW own fr σ) g tc te Q H1 D
theorem M5(hc:X.calm=true)(S:c7 X scope own fr)
   (hg:∀C ex s H,PG (Bd X scope own fr C ex s H) tg g) (ht:∀C ex s H,pT (Bd X scope own fr C ex s H) ifs tc) (he:∀C ex s H,PE (Bd X scope own fr C ex s H) elt te)
 {s:aT}   
   (I:Inv X bu σ H s) (T:Turn X.prog X.w X.K tg J fp it tn) (st:tn 0 s.heap) (hf:∀b∈fp,Dq X bu H b)
   (h:∀D,H D=aV->DX J (DW own fr σ) g tc te Q H D)
   {RR:Value->Addr->Result->aT->Prop}
   (hR:∀D C H' s',Inv X bu σ H' s'->(∃m,s'.heap.Ns C m)->Dq X bu H' C->Q (.ref D) H'->RR (.ref D) C (.ok .next) s'):
   aW (aX X.prog X.w) X.A (newList []) (λacc s₃=>aW (aX X.prog X.w) X.A (newFunctionEnv scope X.env.globals (AO X.env.cells scope.names []) [] X.env.qual aV .none (aS X.env)) (λjg s₄=>
    An3 (aX X.prog X.w) X.A (.compStart (.ListComp elt [⟨tg,iter,ifs,0⟩] scope pos) 0 (.ref it) acc { jg with scope:=relabel scope X.env }) (RR acc jg.locals) s₄) E s₃) E s:=by
  have hDn:H s.heap.objs.size=none:=I.fresh;obtain⟨W,⟨m0,w0⟩,turn⟩:=h s.heap.objs.size hDn;have I3:Inv X bu σ (upd H s.heap.objs.size (.lst [])) { s with heap:=s.heap.push { cls:= .type "list",data:= .seq ([]:List Value).toArray },toks:=s.toks }:=I.qE .nil (Ad4 _);refine Az5 ?_;generalize hs3:({ s with heap:=s.heap.push { cls:= .type "list",data:= .seq ([]:List Value).toArray } }:aT)=s3 at I3 ⊢;have I3:Inv X bu σ (upd H s.heap.objs.size (.lst [])) s3:=I3;have qH:∀b o,s.heap.get? b=aS o->s3.heap.get? b=aS o:=λb o e=>by rw[<-hs3];exact Aa4 _ e
  have lP:∀b∈fp,∃o,s.heap.get? b=aS o/\∀v,o.data≠ .cell v:=T.obj 0 _ st;have gh:∀b∈fp,b≠s.heap.objs.size:=λb hb=>by obtain⟨o,e,_⟩:=lP b hb;exact Ac8 (Ab1 e)
  have mR:∀b∈fp,Dq X bu (upd H s.heap.objs.size (.lst [])) b:=λb hb=>⟨by rw[An (gh b hb)];exact(hf b hb).1,(hf b hb).2⟩;have qI:∀b∈fp,b<s3.heap.objs.size:=λb hb=>by obtain⟨o,e,_⟩:=lP b hb;exact Ab1 (qH b o e)
  refine AE5 S.oB (by intro y hy;simp at hy) (λh₁ qm vR=>?_) S.kind;have keep:∀b o,s3.heap.get? b=aS o->h₁.get? b=aS o:=λb o e=>vR.extBut b o (Ac8 (Ab1 e)) (Aa4 _ e);have J0:=I3.block (t':=s3.toks+([]:List (Str×Value)).length) S mR qI qm keep;have sY:tn 0 h₁:=T.keep 0 _ _ st λb hb o e=>keep b o (qH b o e);have loop:An3 (aX X.prog X.w) X.A (.compLoop (.ListComp elt [⟨tg,iter,ifs,0⟩] scope pos) 0 (.ref it) (.ref s.heap.objs.size) (Au3 scope (AO X.env.cells scope.names []) s3.heap.objs.size X.env))
    (RR (.ref s.heap.objs.size) s3.heap.objs.size) { s3 with heap:=h₁,toks:=s3.toks+([]:List (Str×Value)).length }:=by
   have kI:∀{H':Hp},(∀b∈fp,H' b=aV)->∀b∈fp,Dq (Bd X scope own fr s3.heap.objs.size fp s3 (upd H s.heap.objs.size (.lst []))) [] H' b:=λ{H'} hn b hb=>
    ⟨hn b hb,Ac8 (qI b hb),J0.ok.lq b hb, .inl hb,(J0.ok.sU b hb).2,λp hp=>bV (show p∈([]:List (Addr×Obj)) from hp) (by simp)⟩
   refine MI (λn s'=>∃i ys H',Inv (Bd X scope own fr s3.heap.objs.size fp s3 (upd H s.heap.objs.size (.lst []))) [] (DW own fr σ) H' s'/\tn i s'.heap/\(∀b∈fp,H' b=aV)/\W i n ys H') ?_ m0
    ⟨0,[],_,J0,sY,λb hb=>(mR b hb).1,w0⟩
   rintro n s4 ⟨i,ys,H4,I4,xu,xw,w4⟩;rcases turn i n ys H4 w4 with ⟨stop,q⟩ | ⟨go,N,hN,step⟩
   .refine bZ (T.done (Bd X scope own fr s3.heap.objs.size fp s3 (upd H s.heap.objs.size (.lst []))) rfl rfl rfl hc i [] s4 _ H4 (λ_ _=>False) I4 (kI xw) xu stop) λr s5 ⟨hr,I5⟩=>?_;subst hr;obtain⟨m,hn,_⟩:=id I5.loc;exact hR _ _ H4 s5 (I3.kF I5.os I5.base I5.bO I5.bare λb hb=>⟨(mR b hb).2.2.2.1,(mR b hb).2.1,(mR b hb).2.2.2.2.1,(mR b hb).2.2.2.2.2⟩) ⟨m,hn⟩ (I3.kH (Aa6 _) I5.free) q
   .refine bZ (T.item (Bd X scope own fr s3.heap.objs.size fp s3 (upd H s.heap.objs.size (.lst []))) rfl rfl rfl hc i [] s4 _ H4 (λ_ _=>False) I4 (kI xw) xu go) λr s5 ⟨u,hr,h5⟩=>?_;subst hr;refine bZ h5 λ_ s6 ⟨x,H6,I6,r6,y6,uC,fr6⟩=>?_;have I6':=I6.pinned (kI fr6) (T.obj _ _ uC);refine bZ (hg _ _ _ _ _ s6 _ H6 x u _ I6' r6 (step x H6 y6)) λ_ s7 ⟨σ7,H7,I7,kp,q7⟩=>?_;refine bZ (ht _ _ _ _ _ s7 σ7 H7 _ I7 q7) λb s8 ⟨H8,I8,q8⟩=>?_;have again:∀{s9:aT} {H9:Hp} {ku:List V},Inv (Bd X scope own fr s3.heap.objs.size fp s3 (upd H s.heap.objs.size (.lst []))) ([]++Hw fp s6.heap) σ7 H9 s9->N ku H9->
      ∃m,m<n/\∃i ys H',Inv (Bd X scope own fr s3.heap.objs.size fp s3 (upd H s.heap.objs.size (.lst []))) [] (DW own fr σ) H' s9/\tn i s9.heap/\(∀b∈fp,H' b=aV)/\W i m ys H':=λ{s9 H9 ku} I9 n9=>by
     obtain⟨m',hm,w9⟩:=hN ku H9 n9;refine⟨m',hm,i+1,ku,H9,I9.fu.weak kp.1.symm kp.2,T.keep _ _ _ uC λb hb o e=>(I9.pin (b,o) (Ac0 _ (Ac0 _ (Co hb e)))).1,λb hb=>?_,w9⟩;obtain⟨o,e,d⟩:=T.obj _ _ uC b hb;exact(I9.pin (b,o) (Ac0 _ (Ac0 _ (Co hb e)))).2.1
    cases b with
    | false=>
     rw[bG Ab3] at q8 ⊢;exact again I8 q8
    | true=>
     rw[bS rfl] at q8 ⊢;refine bZ (he _ _ _ _ _ s8 σ7 H8 _ I8 q8) λxv s9 ⟨y,H9,I9,r9,hD,hl,n9⟩=>?_;refine bZ (A0 _ s9 σ7 H9 (.ref s.heap.objs.size) [y] (.ref s.heap.objs.size) [xv] (λ_ H'=>H'=upd H9 s.heap.objs.size (.lst (ys++[y]))) I9 rfl (.cons r9 .nil) ⟨_,ys,y,rfl,rfl,hD,hl,rfl⟩) λ_ s10 ⟨_,H10,I10,_,q10⟩=>?_;subst q10;exact again I10 n9
  exact codeAny_compStart_list loop (T.self _ 0 _ _ _ sY loop)
theorem LR(hc:X.calm=true)(S:c7 X scope own fr)(hi:PI X tg iter wi)
  (hg:∀C ex s H,PG (Bd X scope own fr C ex s H) tg g) (ht:∀C ex s H,pT (Bd X scope own fr C ex s H) ifs tc) (he:∀C ex s H,PE (Bd X scope own fr C ex s H) elt te)
  (hs:∀x,Am5 iter X.env x=pure x:=by intro _;rfl):PE X (.ListComp elt [⟨tg,iter,ifs,0⟩] scope pos) (G9 wi own fr g tc te):=by
 intro bu s σ H Q I h;rw[eval_ListComp];refine AA7 (use:=aV) rfl hs (Cu (S.cells I.ok)) S.kind S.loc (bZ (hi bu s σ H _ I h) λxv s₁ h₁=>bZ h₁ λnv s₂ h₂=>?_);obtain⟨it,fp,tn,J,H2,rfl,I2,T,ue,f2,h2⟩:=h₂;refine M5 (RR:=λacc C=>compPost (aX X.prog X.w) X.A X.xe aV (EP X bu σ Q) acc C) hc S hg ht he I2 T ue f2 h2 ?_;rintro D C H' s' I' ⟨m,hn⟩ f q;exact⟨m,hn,λh' sb=>⟨.ref D,H',I'.turned (t':=s'.toks) (it:=C) (λb o hb e=>(sb.2 b hb).trans e) f.1 f.2.1 f.2.2.2.1 f.2.2.2.2.1 f.2.2.2.2.2,rfl,q⟩⟩
theorem TH{kM:Pos}(hN:X.N.Nodup)(uD:X.N[i]?=aS x)(hx:Loc X.env.scope x)
  (hc:X.calm=true) (S:c7 X scope own fr) (hi:PI X tg iter wi)
  (hg:∀C ex s H,PG (Bd X scope own fr C ex s H) tg g) (ht:∀C ex s H,pT (Bd X scope own fr C ex s H) ifs tc) (he:∀C ex s H,PE (Bd X scope own fr C ex s H) elt te)
  (uE:Av3 (.ListComp elt [⟨tg,iter,ifs,0⟩] scope pos) (aS (.Name x px)) kM.line X.env=pure true:=by rfl)
  (hf:X.fn x=true\/X.env.scope.names.lookup x=aS .local:=by w_means)
  (hs:∀x,Am5 iter X.env x=pure x:=by intro _;rfl):PS X (.Assign [.Name x px] (.ListComp elt [⟨tg,iter,ifs,0⟩] scope pos) kM) (NR (G9 wi own fr g tc te) (AN i)):=by
 intro bu s σ H D I h;rw[exec_Assign_Name_used _ _ _ _ uE];refine Aa1 (Ag1 (Aa1 ?_));show aW _ X.A (do let _ <-comprehension (.ListComp elt [⟨tg,iter,ifs,0⟩] scope pos) scope X.env _ (newList []) false (bh iter X.env) (aS (Ax1 (.Name x px) X.env))) _ _ s;refine Aa1 (Ac7 (AA7 (use:=aS (Ax1 (.Name x px) X.env)) (Q:=λ_ s'=>SP X bu D .next s') rfl hs (Cu (S.cells I.ok)) S.kind S.loc
  (bZ (hi bu s σ H _ I h) λxv s₁ h₁=>bZ h₁ λnv s₂ h₂=>?_)) (λ_ s' hq=>Ab2 (Ab2 hq)) λ_ _ e=>e)
 obtain⟨it,fp,tn,J,H2,rfl,I2,T,ue,f2,h2⟩:=h₂;refine M5 (Q:=λx H1=>AN i x σ H1 D.nx) (RR:=λacc C=>compPost (aX X.prog X.w) X.A X.xe (aS (Ax1 (.Name x px) X.env)) (λ_ s'=>SP X bu D .next s') acc C) hc S hg ht he I2 T ue f2 h2 ?_;rintro Dl C H' s' I' ⟨m,hn⟩ f q;obtain⟨o,es,ep,ho,hd,r⟩:=hn;have uF:∀v,o.data≠ .cell v:=λv z=>by rw[hd] at z;cases z
 have I'':Inv X (bu++[(C,o)]) σ H' s':=I'.kq λp hp=>(Ad6.mp hp).elim (λz=>I'.pin p (Ac0 _ z)) λz=>by
  have e:p=(C,o):=by simpa using z
  subst e;exact⟨ho,f.1,f.2.1,f.2.2.1,uF⟩
 show aW _ X.A (Ax1 (.Name x px) X.env (.ref Dl)) _ _ s';refine AH9 (CA I'' hN uD hx (v:= .ref Dl) rfl (λs2 I2=>?_) hf);have pc:=(I2.pin (C,o) (Ac0 _ (Ac0 _ (by simp)))).1;refine⟨m,⟨o,es,ep,pc,hd,r⟩,λh' sb=>⟨_,H',?_,q⟩⟩;exact(I2.fu (pl:=[(C,o)])).turned (t':=s2.toks) (it:=C) (λb o hb e=>(sb.2 b hb).trans e) f.1 f.2.1 f.2.2.2.1 f.2.2.2.2.1 f.2.2.2.2.2
end
noncomputable def vS(x:Str):It:=⟨λi _=>i<x.cps.size,λi H v H'=>H'=H/\∃c,x.cps[i]?=aS c/\v= .str ⟨#[c]⟩,λi _=>x.cps.size<=i⟩
theorem HV(st:h.IsStrIter it T x t i):∃o,h.get? it=aS o/\o.cls= .type T/\o.data= .fields #[.str x t, .int (i:Int) 0]:=st
theorem Sr(x:Str)(t:Tok)(it:Addr)(T:String)(hT:T="str_ascii_iterator"\/T="str_iterator"):Turn P w K tg (vS x) [it] it (λi h=>h.IsStrIter it T x t i) where
  mem:=by simp
  obj:=λi h st b hb=>by
    have e:b=it:=by simpa using hb
    subst e;obtain⟨o,e,c,d⟩:=HV st;exact⟨o,e,λv z=>by rw[d] at z;cases z⟩
  keep:=λi h h' st k=>let ⟨o,ho,r⟩:=st;⟨o,k it (by simp) o ho,r⟩
  item:=by
    intro X hP hw hK hc i bu s σ H E I hf st hg;subst hP hw hK;have hg:i<x.cps.size:=hg;obtain⟨f0,f1,f2,f3,f4,f5⟩:=hf it (by simp);have hx:x.cps[i]?=aS x.cps[i]:=by simp[hg]
    have fin:∀h',h'.IsStrIter it T x t (i+1)->Ao8 it s.heap h'->∃u,aS (Ay3 ⟨#[x.cps[i]]⟩ s.toks)=aS u/\
        aW (aX X.prog X.w) X.A (As9 tg (.ref it) u) (λ_ s2=>∃y H',Inv X bu σ H' s2/\RelV y u/\(vS x).jM i H y H'/\s2.heap.IsStrIter it T x t (i+1)/\∀b∈[it],H' b=aV) E { s with heap:=h',toks:=s.toks+1 }:=λh' lM sb=>by
      have I1:Inv X bu σ H { s with heap:=h',toks:=s.toks+1 }:=I.turned (t':=s.toks+1) (λb o hb e=>(sb.2 b hb).trans e) f0 f1 f3 f4 f5;obtain⟨o,e,c,d⟩:=HV lM;refine⟨_,rfl,M6 (s:={ s with heap:=h',toks:=s.toks+1 }) e c d ?_ ⟨.str ⟨#[x.cps[i]]⟩,H,I1,⟨_,rfl⟩,⟨rfl,_,hx,rfl⟩,lM,λb hb=>(hf b hb).1⟩⟩;rcases hT with rfl | rfl <;> decide
    rcases hT with rfl | rfl
    · exact wpAny_pyNext_ascii_item st hx fin
    · exact wpAny_pyNext_wide_item st hx fin
  done:=by
    intro X hP hw hK hc i bu s σ H E I hf st hg;subst hP hw hK;have hg:x.cps.size<=i:=hg;obtain⟨f0,f1,f2,f3,f4,f5⟩:=hf it (by simp);rcases hT with rfl | rfl
    · exact wpAny_pyNext_ascii_end (I.ok.hd hc) st (by simp[hg]) λh' eb=>⟨rfl,I.turned (t':=s.toks) (λb o hb e=>eb b o hb e) f0 f1 f3 f4 f5⟩
    · exact wpAny_pyNext_wide_end (I.ok.hd hc) st (by simp[hg]) λh' eb=>⟨rfl,I.turned (t':=s.toks) (λb o hb e=>eb b o hb e) f0 f1 f3 f4 f5⟩
  self:=λ_ _ _ _ _ st h=>by
    rcases hT with rfl | rfl
    · exact wpAny_pyIter_striter_ascii st h
    · exact wpAny_pyIter_striter_wide st h
section
noncomputable def XW(te:TE):TI:=λσ H R=>te σ H λx H1=>∃z,x= .str z/\R (vS z) H1
theorem N8(he:PE X e te):PI X tg e (XW te):=by
 intro bu s σ H R I h;refine bZ (he bu s σ H _ I h) λv s1 ⟨x,H1,I1,r1,q1⟩=>?_;obtain⟨z,e,q⟩:=q1;subst e;obtain⟨t,rfl⟩:=r1;have fin:∀T,(T="str_ascii_iterator"\/T="str_iterator")->PIE X bu σ tg R (.ref s1.heap.objs.size) { s1 with heap:=s1.heap.push { cls:= .type T,data:= .fields #[.str z t, .int 0 0] } }:=λT hT=>by
  refine⟨s1.heap.objs.size,[s1.heap.objs.size],_,_,H1,rfl,I1.kept (t':=s1.toks) λb o e=>Aa4 _ e,Sr z t _ T hT,⟨_,Ab9 _ rfl,rfl,rfl⟩,λb hb=>?_,q⟩;have e:b=s1.heap.objs.size:=by simpa using hb
  subst e;exact I1.kH (Aa6 _) (I1.bO.fresh (Aa6 _))
 cases ha:z.cps.all (· < 128)
 .exact wpAny_pyIter_wide ha (fin _ (.inr rfl))
 .exact wpAny_pyIter_ascii ha (fin _ (.inl rfl))
end
end L2
namespace MS
open PySem PySem.StrLaws Builtin Builtin.Str
noncomputable def b9(c:Nat):List Nat->List (List Nat)
 | []=>[[]]
 | d::r=>if d=c then []::b9 c r else
  match b9 c r with
  | []=>[[d]]
  | w::ws=>(d::w)::ws
theorem jO(c:Nat):∀l,b9 c l≠[]
 | []=>by simp[b9]
 | d::r=>by
  unfold b9;split
  .simp
  .split <;> simp
noncomputable def Bu(L:List Nat)(c a:Nat)(k:Nat):List Nat:=(List.range' a k).filter λi=>decide (L[i]?=aS c)
theorem subAt_one(x:Str)(c i:Nat):subAt x ⟨#[c]⟩ i=decide (x.cps.toList[i]?=aS c):=by
 rw[subAt_eq];show ((x.cps.toList.drop i).take 1 == [c])=_;rw[Ad5,beq_iff_eq,gi];cases h:x.cps.toList[i]? with
 | none=>
  rw[Ag3 (AK1.mp h)];simp
 | some d=>
  obtain⟨hi,e⟩:=Ab8.mp h;rw[Af7 hi];simp[e]
theorem LZ(x:Str)(c limit:Nat):∀(k a:Nat) (st:Array Nat×Nat),st.snd<=a->st.fst.size+k<=limit->a+k=x.length+1->
  (forIn (List.range' a k) st (occBody x ⟨#[c]⟩ x.length limit)).run.fst.toList=st.fst.toList++Bu x.cps.toList c a k
 | 0,a,st,_,_,_=>by simp[Bu]
 | k+1,a,st,h1,h2,h3=>by
  have hl:x.cps.toList.length=x.length:=by simp[Am3]
  rw[AG8,AA6];unfold Bu;rw[AG8,At9];by_cases hc:x.cps.toList[a]?=aS c
  .have ha:a<x.length:=by
    have:=(Ab8.mp hc).1;omega
   have cond:((st.fst.size<limit/\st.snd<=a)/\a+(⟨#[c]⟩:Str).length<=x.length)/\subAt x ⟨#[c]⟩ a=true:=by
    refine⟨⟨⟨by omega,h1⟩,?_⟩,by rw[subAt_one];exact iT hc⟩;show a+1<=x.length;omega
   have e:occBody x ⟨#[c]⟩ x.length limit a st=pure (Am1 (st.fst.push a,a+1)):=by unfold occBody;rw[bS cond];rfl
   rw[e];simp only[pure_bind];have ih:=LZ x c limit k (a+1) (st.fst.push a,a+1) (Aa6 _) (by simp;omega) (by omega);rw[bS (by simpa using hc)];refine ih.trans ?_;simp[Bu]
  .have cond:¬ (((st.fst.size<limit/\st.snd<=a)/\a+(⟨#[c]⟩:Str).length<=x.length)/\subAt x ⟨#[c]⟩ a=true):=by
    intro h;rw[subAt_one] at h;exact hc (of_decide_eq_true h.2)
   have e:occBody x ⟨#[c]⟩ x.length limit a st=pure (Am1 (st.fst,st.snd)):=by unfold occBody;rw[bG cond]
   rw[e];simp only[pure_bind];have ih:=LZ x c limit k (a+1) (st.fst,st.snd) (by show st.snd<=a+1;omega) (by show st.fst.size+k<=limit;omega) (by omega);rw[bG (by simpa using hc)];exact ih.trans (by simp[Bu])
theorem Ug(x:Str)(c:Nat):occurrences x ⟨#[c]⟩ 0 x.length (x.length+1)=Bu x.cps.toList c 0 (x.length+1):=by
 rw[occ_eq];have:=LZ x c (x.length+1) (x.length+1) 0 (#[],0) (Aa6 _) (by simp) (by omega);simpa using this
theorem Kt(x:Str)(c:Nat):∀(k a:Nat),a+k=x.length+1->a<=x.length->(partsFrom x 1 a (Bu x.cps.toList c a k)).map (λs=>s.cps.toList)=b9 c (x.cps.toList.drop a)
 | 0,a,h,h2=>by omega
 | k+1,a,h,h2=>by
  have hl:x.cps.toList.length=x.length:=by simp[Am3]
  by_cases ha:a=x.length
  .subst ha;have e:Bu x.cps.toList c x.length (k+1)=[]:=by
    unfold Bu;rw[Az6];intro i hi;have hi:=(List.mem_range'_1.mp hi).1;rw[AK1.mpr (by omega)];simp
   rw[e,Ag3 (by omega)];show [(strSub x x.length x.length).cps.toList]=[[]];rw[strSub_toList];simp
  .have dZ:a<x.cps.toList.length:=by omega
   have ih:=Kt x c k (a+1) (by omega) (by omega);have hd:x.cps.toList.drop a=x.cps.toList[a]::x.cps.toList.drop (a+1):=Af7 dZ;rw[hd];have hg:x.cps.toList[a]?=aS x.cps.toList[a]:=Aa3 dZ;unfold Bu;rw[AG8,At9];by_cases hc:x.cps.toList[a]=c
   .rw[bS (by rw[hg,hc];simp)];have e1:b9 c (x.cps.toList[a]::x.cps.toList.drop (a+1))=[]::b9 c (x.cps.toList.drop (a+1)):=by rw[b9,bS hc]
    rw[e1, <-ih];show (strSub x a a).cps.toList::_=_;rw[strSub_toList];simp[Bu]
   .rw[bG (by rw[hg];simpa using hc)];have e1:b9 c (x.cps.toList[a]::x.cps.toList.drop (a+1))=match b9 c (x.cps.toList.drop (a+1)) with | []=>[[x.cps.toList[a]]] | w::ws=>(x.cps.toList[a]::w)::ws:=by rw[b9,bG hc]
    rw[e1, <-ih];show (partsFrom x 1 a (Bu x.cps.toList c (a+1) k)).map _=_;have far:∀i∈Bu x.cps.toList c (a+1) k,a+1<=i:=λi hi=>(List.mem_range'_1.mp (Ah0.mp hi).1).1;cases hp:Bu x.cps.toList c (a+1) k with
    | nil=>
     show [(strSub x a x.length).cps.toList]=[x.cps.toList[a]::(strSub x (a+1) x.length).cps.toList];rw[strSub_toList,strSub_toList,hd];have e2:x.length - a=(x.length - (a+1))+1:=by omega
     rw[e2,AD3]
    | cons i r=>
     rw[hp] at far;have:=far i Ab0;show (strSub x a i).cps.toList::_=(x.cps.toList[a]::(strSub x (a+1) i).cps.toList)::_;rw[strSub_toList,strSub_toList,hd];have e2:i - a=(i - (a+1))+1:=by omega
     rw[e2,AD3]
theorem fm(x:Str)(c:Nat)(hc:c<256)(hx:x.cps.toList≠[] ):(Ai8 x ⟨#[c]⟩).map (λs=>s.cps.toList)=b9 c x.cps.toList:=by
 have hl:x.cps.toList.length=x.length:=by simp[Am3]
 have run:=Kt x c (x.length+1) 0 (by omega) (Ad4 _);rw[AI8] at run;unfold Ai8;have k1:¬ ((decide (x.length<(⟨#[c]⟩:Str).length)||decide (An7 x<An7 ⟨#[c]⟩))=true):=by
  have e1:(⟨#[c]⟩:Str).length=1:=rfl;have e2:An7 ⟨#[c]⟩=1:=by unfold An7;simp[hc]
  have e3:1<=An7 x:=by unfold An7;split <;> (try split) <;> decide
  have e4:1<=x.length:=by
   have:=Ae9.mpr hx;omega
  rw[e1,e2];simp;omega
 rw[bG k1,Ug];split
 .rename_i he
  have he:Bu x.cps.toList c 0 (x.length+1)=[]:=by simpa using he
  rw[he] at run;rw[<-run];show [x.cps.toList]=[(strSub x 0 x.length).cps.toList];rw[sub_whole]
 .rw[partsBetween_eq];exact run
theorem HL(c:Nat):∀w:List Nat,c∉w->b9 c w=[w]
 | [],_=>rfl
 | d::r,h=>by
  have h1:d≠c:=λe=>h (by rw[e];exact Ab0);rw[b9,bG h1,HL c r λz=>h (Aa8 _ z)]
theorem Jf(c:Nat):∀(w l:List Nat),c∉w->b9 c (w++c::l)=w::b9 c l
 | [],l,_=>by
  show b9 c (c::l)=_;rw[b9,bS rfl]
 | d::r,l,h=>by
  have h1:d≠c:=λe=>h (by rw[e];exact Ab0);show b9 c (d::(r++c::l))=_;rw[b9,bG h1,Jf c r l λz=>h (Aa8 _ z)]
theorem Ib(c:Nat):∀ws:List Str,ws≠[]->(∀w∈ws,c∉w.cps.toList)->b9 c (Am8 ⟨#[c]⟩ ws).cps.toList=ws.map (λs=>s.cps.toList)
 | [],h,_=>bV rfl h
 | [w],_,h=>HL c _ (h w Ab0)
 | w::v::r,_,h=>by
  have ih:=Ib c (v::r) (by simp) λy hy=>h y (Aa8 _ hy);have e:(Am8 ⟨#[c]⟩ (w::v::r)).cps.toList=w.cps.toList++c::(Am8 ⟨#[c]⟩ (v::r)).cps.toList:=by
   show (w++⟨#[c]⟩++Am8 ⟨#[c]⟩ (v::r)).cps.toList=_;simp[Str.cps_append]
  rw[e,Jf c _ _ (h w Ab0),ih];rfl
theorem toList_inj{a b:List Str}(h:a.map (λs=>s.cps.toList)=b.map (λs=>s.cps.toList)):a=b:=by
 have inj:∀x y:Str,x.cps.toList=y.cps.toList->x=y:=λx y e=>Str.ext' (Array.toList_inj.mp e)
 induction a generalizing b with
 | nil=>cases b with
  | nil=>rfl
  | cons _ _=>simp at h
 | cons x a ih=>cases b with
  | nil=>simp at h
  | cons y b=>
   simp only[Ac3,List.cons.injEq] at h;rw[inj x y h.1,ih h.2]
theorem jh(c:Nat)(hc:c<256)(ws:List Str)(h1:ws≠[])(h2:∀w∈ws,c∉w.cps.toList)(h3:(Am8 ⟨#[c]⟩ ws).cps.toList≠[]):Ai8 (Ak4 ⟨#[c]⟩ ws) ⟨#[c]⟩=ws:=by
 have e:Ak4 ⟨#[c]⟩ ws=Am8 ⟨#[c]⟩ ws:=glued_eq_join _ _;rw[e];exact toList_inj ((fm _ c hc h3).trans (Ib c ws h1 h2))
end MS
namespace MN
open PySem PySem.StrLaws PySem.NumText Builtin Builtin.Str
noncomputable def ek(c:Nat):Bool:=decide (48<=c)&&decide (c<=57)
noncomputable def numOf(cs:List Nat):Option Nat:=if (decide (1<=cs.length)&&decide (cs.length<=3)&&cs.all ek&& !(decide (1<cs.length)&&cs.head? == aS 48))=true then aS (digitsVal cs) else aV
theorem RM:∀m,m<1000->numOf ((Nat.toDigits 10 m).map Char.toNat)=aS m:=by decide +kernel
theorem SG{i:Int}(h0:0<=i)(h1:i<1000):numOf (Ai9 (toString i)).cps.toList=aS i.toNat:=by
 obtain⟨m,rfl⟩:=Int.eq_ofNat_of_zero_le h0;rw[PySem.W.KIN.signs_num];exact RM m (by omega)
theorem lQ{i:Int}(h0:0<=i)(h1:i<1000):(Ai9 (toString i)).length<=3:=by
 have h:=SG h0 h1;unfold numOf at h;split at h
 .rename_i hc
  simp only[Ab5,gi] at hc;have:=hc.1.1.2;simpa [Am3] using this
 .cases h
theorem qJ(x:Str)(c:Nat):(!(occurrences x ⟨#[c]⟩ 0 x.length 1).isEmpty)=decide (c∈x.cps.toList):=by
 rw[Ad5,gi,found_iff,List.mem_iff_getElem?];constructor
 .rintro⟨i,h⟩;exact⟨i,(StrLaws.subAt_one x c i).mp h⟩
 .rintro⟨i,h⟩;exact⟨i,(StrLaws.subAt_one x c i).mpr h⟩
theorem pF(c:Nat):decide (c∈(Ai9 "0123456789").cps.toList)=ek c:=by
 have e:(Ai9 "0123456789").cps.toList=(Ab7 10).map (· + 48):=by decide +kernel
 rw[e];unfold ek;rw[Ad5,gi,Ac4,Ab5,gi,gi];constructor
 .rintro⟨a,h,rfl⟩;have:=Ae4.mp h;omega
 .intro h;exact⟨c - 48,Ae4.mpr (by omega),by omega⟩
end MN
namespace L2
open PySem PySem.Spec PyProof.Rows
section
noncomputable def XI:V->Option Int->Option Int->Hp->VK->Prop:=λx lo hi H Q=>∃z,x= .str z/\z.length<=sizeLine/\Q (.str (Az1 z lo hi)) H
theorem Ru:zd X XI:=by
 intro bu s σ H x v vl vu lo hi sl Q I rx hs pl pu h;obtain⟨z,rfl,hz,q⟩:=h;obtain⟨t,rfl⟩:=rx;refine⟨"str",_,F.slot_str_getitem.lookup,AC9 _ _ _,?_⟩;have fin:∀t' k,EP X bu σ Q (.str (Az1 z lo hi) t') { s with toks:=k }:=λt' k=>⟨.str _,H,I.tok k,⟨t',rfl⟩,q⟩;obtain⟨o,ho,hc,hd⟩:=hs;cases pl with
 | none=>
  cases pu with
  | none=>exact At6 (l:=aV) (u:=aV) (st:=aV) ⟨o,ho,hc,hd⟩ rfl (AD4 ⟨Ab4 (AA8 z _ _) hz,fin⟩)
  | int j uj=>exact At6 (l:=aV) (u:=aS (j,uj)) (st:=aV) ⟨o,ho,hc,hd⟩ rfl (AD4 ⟨Ab4 (AA8 z _ _) hz,fin⟩)
 | int i ui=>
  cases pu with
  | none=>exact At6 (l:=aS (i,ui)) (u:=aV) (st:=aV) ⟨o,ho,hc,hd⟩ rfl (AD4 ⟨Ab4 (AA8 z _ _) hz,fin⟩)
  | int j uj=>exact At6 (l:=aS (i,ui)) (u:=aS (j,uj)) (st:=aV) ⟨o,ho,hc,hd⟩ rfl (AD4 ⟨Ab4 (AA8 z _ _) hz,fin⟩)
theorem JR:rG X "str.startswith" (λx vs H Q=>∃z y,x= .str z/\vs=[.str y]/\Q (.bl (Txt.startswith z y)) H):=by
 intro bu s σ H x vs v us Q I rx rv h;obtain⟨z,y,rfl,rfl,q⟩:=h;obtain⟨t,rfl⟩:=rx;obtain⟨u,rfl,ru⟩:=rv.one;obtain⟨u',rfl⟩:=ru;exact SC.startswith ⟨.bl _,H,I,rfl,q⟩
theorem Fi:rG X "str.endswith" (λx vs H Q=>∃z y,x= .str z/\vs=[.str y]/\Q (.bl (Al4 z y)) H):=by
 intro bu s σ H x vs v us Q I rx rv h;obtain⟨z,y,rfl,rfl,q⟩:=h;obtain⟨t,rfl⟩:=rx;obtain⟨u,rfl,ru⟩:=rv.one;obtain⟨u',rfl⟩:=ru;exact SC.endswith ⟨.bl _,H,I,rfl,q⟩
theorem KN:∀{l:List (Str×Tok)},Vals ((l.map (·.1)).map V.str) (strValues l)
 | []=> .nil
 | _::l=> .cons ⟨_,rfl⟩ (KN (l:=l))
theorem IW:∀{ys:List Str} {us:List Value},Vals (ys.map V.str) us->StrsAre us ys
 | [],us,r=>by rw[At0] at r;cases r;exact .nil
 | y::ys,us,r=>by
  rw[Ac3] at r;cases r with
  | cons r1 r2=>
   obtain⟨t,e⟩:=r1;subst e;exact .cons y t (IW r2)
open Builtin.Str in
theorem Qv:rG X "str.split" (λx vs H Q=>∃z y,x= .str z/\vs=[.str y]/\(y.length == 0)=false/\z.length+2<=sizeLine/\∀p,H p=aV->Q (.ref p) (upd H p (.lst ((Ai8 z y).map V.str)))):=by
 intro bu s σ H x vs v us Q I rx rv h;obtain⟨z,y,rfl,rfl,hy,hz,q⟩:=h;obtain⟨t,rfl⟩:=rx;obtain⟨u',rfl,ru⟩:=rv.one;obtain⟨u,rfl⟩:=ru;have hn:(partsBetween z (occurrences z y 0 z.length (z.length+1)) y.length).length<=sizeLine:=by
  have e1:=StrLaws.occ_length_le z y 0 z.length (z.length+1);rw[length_partsBetween];omega
 have fin:∀(l:List (Str×Tok)) (k:Nat),l.map (·.1)=Ai8 z y->l.length<=sizeLine->
   EP X bu σ Q (.ref s.heap.objs.size) { s with heap:=s.heap.push { cls:= .type "list",data:= .seq (strValues l).toArray },toks:=k }:=λl k e hl=>
  ⟨.ref _,_,I.qE (t':=k) (ys:=(Ai8 z y).map V.str) (its:=strValues l) (by rw[<-e];exact KN) (by rw[<-e];simpa using hl),rfl,q _ I.fresh⟩
 cases h1:(decide (z.length<y.length)||decide (strKind z<strKind y))
 .cases hf:(occurrences z y 0 z.length (z.length+1)).isEmpty
  .refine At4 Al2 (AC9 _ _ _) AH3 (AG1 _ _) (meets_str_split_sep z y t u h1 hy hf (by omega) hn) ?_;show wants _ _ _ { s with toks:=_,heap:=s.heap.push { cls:= .type "list",data:= .seq (strsFrom s.toks (partsBetween z (occurrences z y 0 z.length (z.length+1)) y.length)).toArray } };rw[strsFrom_eq];exact fin (numbered s.toks _) _ ((numbered_texts _ _).trans ((bG (ne_true_of_eq_false h1)).trans (bG (ne_true_of_eq_false hf))).symm) (by have:=congrArg Ah4 (numbered_texts s.toks (partsBetween z (occurrences z y 0 z.length (z.length+1)) y.length));rw[Aa0] at this;omega)
  .exact At4 Al2 (AC9 _ _ _) AH3 (AG1 _ _) (meets_str_split_not_found z y t u h1 hy hf)
    (fin [(z,t)] s.toks ((bG (ne_true_of_eq_false h1)).trans (bS hf)).symm (by show 1<=sizeLine;decide))
 .exact At4 Al2 (AC9 _ _ _) AH3 (AG1 _ _) (meets_str_split_cannot_occur z y t u h1)
   (fin [(z,t)] s.toks (bS h1).symm (by show 1<=sizeLine;decide))
theorem Uw:rG X "str.join" (λx vs H Q=>∃(z:Str) (p:Addr) (ys:List Str),x= .str z/\vs=[.ref p]/\bx X.K H p (ys.map V.str)/\(ys.map (·.length)).sum+ys.length*z.length<=16777216/\Q (.str (Ak4 z ys)) H):=by
 intro bu s σ H x vs v us Q I rx rv h;obtain⟨z,p,ys,rfl,rfl,hq,hz,q⟩:=h;obtain⟨t,rfl⟩:=rx;obtain⟨u,rfl,ru⟩:=rv.one;cases ru;obtain⟨its,r,pl,_⟩:=I.list hq;exact join_list pl.isList (by simpa using IW r) hz λt' k=>⟨.str _,H,I.tok k,⟨t',rfl⟩,q⟩
theorem AX:BG X (.type "int") (λxs H Q=>∃z n,xs=[.str z]/\Aq2 z=aS n/\z.length<=640/\Q (.int n) H):=by
 intro bu s σ H xs us Q I r h;obtain⟨z,n,rfl,hn,hl,q⟩:=h;obtain⟨u,rfl,rx⟩:=Fh r;obtain⟨t,rfl⟩:=rx;exact PySem.W.KIN.call_text hn hl ⟨.int n,H,I.tok _,⟨_,rfl⟩,q⟩
theorem HP:∀{ns:List Int} {l:List (Int×Tok)},Vals (ns.map V.int) (l.map λp=>Av8 p.1 p.2)->l.map (·.1)=ns
 | [],[],_=>rfl
 | n::ns,p::l,r=>by
  cases r with
  | cons r1 r2=>
   obtain⟨t,e⟩:=r1;injection e with e1 e2;rw[Ac3,HP r2,e1]
 | [],_::_,r=>by cases r
 | _::_,[],r=>by cases r
theorem RC(hc:X.calm=true):BG X (.builtin "sum") (λxs H Q=>∃(p:Addr) (ns:List Int),xs=[.ref p]/\bx X.K H p (ns.map V.int)/\Q (.int ns.sum) H):=by
 intro bu s σ H xs us Q I r h;obtain⟨p,ns,rfl,hq,q⟩:=h;obtain⟨u,rfl,rx⟩:=Fh r;cases rx;obtain⟨its,rv,pl,_⟩:=I.list hq;obtain⟨ps,e⟩:=(IntsAre.allInts (NL rv)).items;have e':its=ps.toList.map λp=>Av8 p.1 p.2:=by
  have:=congrArg Array.toList e;simpa [intItems] using this
 have hl:=pl.isList;rw[e] at hl;refine sum_intListG (I.ok.hd hc) hl λh' tk t' hk=>?_;have es:preSum (numAt ps) ps.size=ns.sum:=by
  rw[preSum_eq,Ae6 (by simp),HP (ns:=ns) (l:=ps.toList) (by rw[<-e'];exact rv)]
 rw[es];exact⟨.int ns.sum,H,I.kept hk,⟨t',rfl⟩,q⟩
theorem Pt(bs:List Bool):(Ab7 bs.length).all (λi=>bs.getD i true)=bs.all id:=by
 rw[Ad5,Ae0,Ae0];constructor
 .intro h b hb;obtain⟨i,hi,rfl⟩:=List.getElem_of_mem hb;have:=h i (by simpa using hi);rw[Aa2,Aa3 hi] at this;exact this
 .intro h i hi;have hi:i<bs.length:=by simpa using hi
  rw[Aa2,Aa3 hi];exact h _ (Ah6 hi)
theorem Qj(hc:X.calm=true):BG X (.builtin "all") (λxs H Q=>∃(p:Addr) (bs:List Bool),xs=[.ref p]/\bx X.K H p (bs.map V.bl)/\Q (.bl (bs.all id)) H):=by
 intro bu s σ H xs us Q I r h;obtain⟨p,bs,rfl,hq,q⟩:=h;obtain⟨u,rfl,rx⟩:=Fh r;cases rx;obtain⟨its,rv,pl,_⟩:=I.list hq;have hl:=rv.length;rw[Aa0] at hl;obtain⟨o,ho,_⟩:=id pl.isList;have gh:p≠s.heap.objs.size:=Ac8 (Ab1 ho);refine call_all_walk (AI0 pl.isList ?_);refine⟨s.heap.objs.size,_,_,_,_,_,λi=>bs.getD i true,rfl,Walks.list (A:=X.A.in1) (I.ok.hd hc) _ p gh its.toArray,⟨⟨_,Ab9 _ rfl,rfl,rfl⟩,pl.isList.at λo e=>Aa4 _ e⟩,?_,λh' tk hk=>?_⟩
 .intro i v s' Q' E' hv hQ';have hv:its[i]?=aS v:=by simpa using hv
  have hi:i<bs.length:=by rw[hl];exact(Ab8.mp hv).1
  obtain⟨u,hu,ru⟩:=rv.get (i:=i) (x:= .bl (bs.getD i true)) (by rw[Ac1,Aa2,Aa3 hi];rfl);rw[hu] at hv;cases hv;cases ru;exact Ag4 hQ'
 .have e:its.toArray.size=bs.length:=by rw[Ab6];exact hl.symm
  rw[e,Pt];exact⟨.bl _,H,I.kept λb o e=>hk b o (λz=>by simp at z;exact bV (Ab1 e) (by rw[z];exact Ag7 _)) (Aa4 _ e),rfl,q⟩
theorem MY:BG X (.builtin "isinstance") (λxs H Q=>∃x n t b,xs=[x, .ty n]/\fB X.K H x t/\Ai6 X.K t (.type n)=aS b/\Q (.bl b) H):=by
 intro bu s σ H xs us Q I r h;obtain⟨x,n,t,b,rfl,ty,e,q⟩:=h;obtain⟨u,c,rfl,rx,rc⟩:=Ol r;cases rc;exact KQ I rx ty e λtk=>⟨.bl b,H,I.tok tk,rfl,q⟩
noncomputable def Nh(K:aU):R2:=λx y H Q=>∃l b xs zs,x= .ref l/\y= .ref b/\bx K H l xs/\bx K H b zs/\xs.length+zs.length<=sizeLine/\∀p,H p=aV->Q (.ref p) (upd H p (.lst (xs++zs)))
theorem Ti:gf X (Ar2 .Add) (Nh X.K):=by
 intro bu s σ H x y v u Q I rx ry h;obtain⟨l,b,xs,zs,rfl,rfl,hH,hB,hz,q⟩:=h;cases rx;cases ry;obtain⟨its,r,pl,_⟩:=I.list hH;obtain⟨cE,r2,fT,_⟩:=I.list hB;have h1:=r.length;have h2:=r2.length;obtain⟨⟨cls,dd,data,sl⟩,n,ho,hc,hdd,hd⟩:=pl;obtain⟨⟨aaO,dd2,data2,tD⟩,n2,ho2,tE,xx,hd2⟩:=fT;simp only at hc hdd hd tE xx hd2;subst hc hdd hd tE xx hd2;refine concat_meets ⟨_,ho,rfl⟩ ⟨_,ho2,rfl⟩ noFill_list_add seq_list_add PySem.F.slot_list_add PySem.F.entry_list_add (PySem.F.args_list_add_2 _ _) (list_addW l b its.toArray cE.toArray n n2 aV aV sl tD (by rw[Ab6,Ab6];omega)) ⟨ho,ho2,?_⟩;have e:its.toArray++cE.toArray=(its++cE).toArray:=by simp
 rw[e];exact⟨.ref _,_,I.qE (t':=s.toks) (r.append r2) (by rw[Aa5];omega),rfl,q _ I.fresh⟩
noncomputable def Gz(xs ys:List V):Bool:=xs.length == ys.length&&(Ab7 xs.length).all λi=>nA (xs.getD i .bC) (ys.getD i .bC)
theorem Kg(h:xs.all Bx=true)(hi:i<xs.length):Bx (xs.getD i .bC)=true:=by
 rw[Aa2,Aa3 hi];exact(Ae0.mp h) _ (Ah6 hi)
noncomputable def MW(K:aU)(neg:Bool):R2:=λx y H Q=>∃p q xs ys,x= .ref p/\y= .ref q/\bx K H p xs/\bx K H q ys/\xs.all Bx=true/\ys.all Bx=true/\Q (.bl (if neg then !Gz xs ys else Gz xs ys)) H
theorem Jw{cE:List Value}(r:Vals xs its)(r2:Vals ys cE)(fx:xs.all Bx=true)(fy:ys.all Bx=true):
  ∀j (h1:j<its.toArray.size) (h2:j<cE.toArray.size),At8 A s its.toArray[j] cE.toArray[j] (nA (xs.getD j .bC) (ys.getD j .bC)):=λj h1 h2=>by
 have l1:=r.length;have l2:=r2.length;have qK:j<its.length:=by simpa using h1
 have rH:j<cE.length:=by simpa using h2
 have g1:xs[j]?=aS (xs.getD j .bC):=by rw[Aa2,Aa3 (by omega)];rfl
 have g2:ys[j]?=aS (ys.getD j .bC):=by rw[Aa2,Aa3 (by omega)];rfl
 obtain⟨u,e1,ru⟩:=r.get g1;obtain⟨u2,e2,xy⟩:=r2.get g2;have q1:its.toArray[j]=u:=by rw[Aa3 qK] at e1;simpa using Ae1.inj e1
 have q2:cE.toArray[j]=u2:=by rw[Aa3 rH] at e2;simpa using Ae1.inj e2
 rw[q1,q2];exact Sf ru xy (Kg fx (by omega)) (Kg fy (by omega))
theorem We(hu:X.A.units<cLine):gf X (Ak3 .Eq) (MW X.K false):=by
 intro bu s σ H x y v u Q I rx ry h;obtain⟨p,q,xs,ys,rfl,rfl,h1,h2,fx,fy,hq⟩:=h;cases rx;cases ry;obtain⟨its,r,pl,_⟩:=I.list h1;obtain⟨cE,r2,fT,_⟩:=I.list h2;have l1:=r.length;have l2:=r2.length;by_cases hl:xs.length=ys.length
 .refine SeqAt.eq_listAt pl.isList fT.isList (by simp;omega) hu (Jw r r2 fx fy) ⟨.bl _,H,I,rfl,?_⟩;have e:Gz xs ys=(Ab7 its.toArray.size).all λi=>nA (xs.getD i .bC) (ys.getD i .bC):=by
   unfold Gz;rw[hl,beq_self_eq_true,Ar5,Ab6, <-l1,hl]
  rw[<-e];exact hq
 .refine SeqAt.eq_list_lengthsAt pl.isList fT.isList (by simp;omega) hu ⟨.bl _,H,I,rfl,?_⟩;have e:Gz xs ys=false:=by unfold Gz;rw[beq_eq_false_iff_ne.mpr hl,Af6]
  rw[<-e];exact hq
theorem Vo(hu:X.A.units<cLine):gf X (Ak3 .NotEq) (MW X.K true):=by
 intro bu s σ H x y v u Q I rx ry h;obtain⟨p,q,xs,ys,rfl,rfl,h1,h2,fx,fy,hq⟩:=h;cases rx;cases ry;obtain⟨its,r,pl,_⟩:=I.list h1;obtain⟨cE,r2,fT,_⟩:=I.list h2;have l1:=r.length;have l2:=r2.length;by_cases hl:xs.length=ys.length
 .refine AI9 pl.isList fT.isList (by simp;omega) hu (Jw r r2 fx fy) _ _ _ _ ⟨.bl _,H,I,rfl,?_⟩;have e:Gz xs ys=(Ab7 its.toArray.size).all λi=>nA (xs.getD i .bC) (ys.getD i .bC):=by
   unfold Gz;rw[hl,beq_self_eq_true,Ar5,Ab6, <-l1,hl]
  rw[<-e];exact hq
 .refine AE0 pl.isList fT.isList (by simp;omega) hu _ _ _ _ ⟨.bl _,H,I,rfl,?_⟩;have e:Gz xs ys=false:=by unfold Gz;rw[beq_eq_false_iff_ne.mpr hl,Af6]
  rw[e] at hq;exact hq
theorem Uc{α:Type}[DecidableEq α](f:α->V)(hf:∀a b,nA (f a) (f b)=decide (a=b))(as bs:List α):Gz (as.map f) (bs.map f)=decide (as=bs):=by
 unfold Gz;rw[Ad5,Ab5,Ae0,gi,beq_iff_eq,Aa0,Aa0];constructor
 .rintro⟨h1,h2⟩;refine Af8 h1 λi g1 g2=>?_;have:=h2 i (by simpa using g1);rw[Aa2,Aa2,Ac1,Ac1,Aa3 g1,Aa3 g2] at this;have:=(hf _ _).symm.trans this;exact of_decide_eq_true this
 .rintro rfl;refine⟨rfl,λi hi=>?_⟩;have hi:i<as.length:=by simpa using hi
  rw[Aa2,Ac1,Aa3 hi];show nA (f as[i]) (f as[i])=true;rw[hf];exact iT rfl
theorem Ri(as bs:List Int):Gz (as.map V.int) (bs.map V.int)=decide (as=bs):=Uc V.int (λa b=>by show (a == b)=_;rw[Ad5,beq_iff_eq,gi]) as bs
theorem Ms(as:List Int):(as.map V.int).all Bx=true:=by simp[Bx]
end
noncomputable def bF(P:Program)(w:bg)(K:aU)(mg:Str->Option Value)(base:Heap)(x:Str)(k:Nat)(ps:List Str)(sp:Sp):Prop:=
 ∃f fd,mg x=aS (.ref f)/\Ak7 K (.ref f)=true/\bQ P w K mg base c6 k f fd ps sp/\Binds K fd ps []
section
variable {x:Str}{k:Nat}{sp:Sp}{t:TA}{p:Pos}
theorem Ag(h:bF X.prog X.w X.K X.mg X.base x k ps sp)(hr:cJ k X.A)(ha:PA X (e::es) t)(hg:Gl X x:=by rfl)(om:(x == ("__debug__":Str))=false:=by decide)
  (he:aZ (e::es) X.env=(false,bh e X.env)::aZ es X.env:=by rfl) (kr:(An9 pos (aZ es X.env)).any (·.1)=false:=by rfl):
  PE X (.Call (.Name x p) (e::es) [] pos) (MP sp [] E0 t):=by
 obtain⟨f,fd,hm,hk,F,hb⟩:=h;exact O7 F hr hg hm hk hb .nil QM ha om he kr
end
structure bJ(K:aU)(mg:Str->Option Value)(x:Str)(st:Stmt)(ps:List Str)(f:Addr)(fd:Am7):Prop where
 fn:cR K x x st f fd
 at':mg x=aS (.ref f)
 bi:Binds K fd ps []
theorem bJ.call{st:Stmt}(d:bJ K mg x st ps f fd)
 (F:bQ P w K mg base c6 k f fd ps sp):bF P w K mg base x k ps sp:=⟨f,fd,d.at',d.fn.kp,F,d.bi⟩
noncomputable def Sa:V->Bool | .int _=>true | _=>false
noncomputable def UD:V->Bool | .bl _=>true | _=>false
noncomputable def Lv:V->Bool | .str _=>true | _=>false
noncomputable def Ty(K:aU)(H:Hp)(x:V):Prop:=∃n,fB K H x (.type n)
noncomputable def Ei(n T:String):Option Bool:=if (Ap8 n == Ap8 T)=true then aS true else if PySem.W.kitMeta T=true then (fastBuiltinMro n).map (·.contains (.type T)) else aV
section
variable {x:V}{n:String}
theorem kb(h:Ei n T=aS b):Ai6 K (.type n) (.type T)=aS b:=h
theorem To(h:fB K H x (.type n)):Ai6 K (.type n) (.type "int")=aS (Sa x||UD x):=by
 cases h <;> first
  | exact(show Ai6 K _ _=aS true from kb (by decide +kernel))
  | exact(show Ai6 K _ _=aS false from kb (by decide +kernel))
theorem RG(h:fB K H x (.type n)):Ai6 K (.type n) (.type "bool")=aS (UD x):=by
 cases h <;> first
  | exact(show Ai6 K _ _=aS true from kb (by decide +kernel))
  | exact(show Ai6 K _ _=aS false from kb (by decide +kernel))
theorem Ud(h:fB K H x (.type n)):Ai6 K (.type n) (.type "str")=aS (Lv x):=by
 cases h <;> first
  | exact(show Ai6 K _ _=aS true from kb (by decide +kernel))
  | exact(show Ai6 K _ _=aS false from kb (by decide +kernel))
end
section
noncomputable def Own(mg:Str->Option Value)(names:List Str):Prop:=∀x∈names,mg x=aV
theorem Ec:Am4 "all"=aS (.builtin "all"):=by decide +kernel
theorem Ca(hg:Gl X x)(hm:X.mg x=aV)(hv:Am4 x=aS (.type T))(hn:x≠"__name__":=by decide)(hd:(x == ("__debug__":Str))=false:=by decide):PE X (.Name x pos) (tC (.ty T)):=
 SL hg hm hv (show RelV (.ty T) (.type T) from rfl) hn hd
end
noncomputable def FV(N:List Str)(scope:Scope):List (Str×Nat):=scope.names.filterMap λy=>if y.2= .free then (N.findIdx? λn=>decide (n=y.1)).map λi=>(y.1,i) else aV
noncomputable def EW(sc:Scope)(N:List Str)(scope:Scope)(own:List Str)(fr:List (Str×Nat)):Bool:=
 decide (scope.kind= .function)&&
 (scope.names.all λy=>decide (y.2≠ .cell)&&(decide (y.2≠ .local)||decide (scope.names.lookup y.1=aS .local))&&
  (decide (y.2≠ .free)||((decide (sc.names.lookup y.1=aS .cell)||decide (sc.names.lookup y.1=aS .free))&&decide (scope.names.lookup y.1=aS .free))))&&
 (fr.all λp=>decide (N[p.2]?=aS p.1)&&decide ((p.1,Ak8)∈scope.names))&&
 (own.all λx=>decide (scope.names.lookup x=aS .local))&&decide ((own++fr.map (·.1)).Nodup)
section
variable {own:List Str}{fr:List (Str×Nat)}
theorem c7.of(h:EW X.env.scope X.N scope own fr=true):c7 X scope own fr:=by
 unfold EW at h;simp only[Ab5,Ae0,gi,AH7] at h;obtain⟨⟨⟨⟨h1,h2⟩,h3⟩,h4⟩,h5⟩:=h;exact⟨h1,λy hy=>(h2 y hy).1.1,λy hy e=>(h2 y hy).1.2.resolve_left (λz=>z e),λy hy e=>((h2 y hy).2.resolve_left (λz=>z e)).1,λp hp=>h3 p hp,λx hx=>((h2 _ hx).2.resolve_left (λz=>z rfl)).2⟩
theorem KU(h:EW X.env.scope X.N scope own fr=true):(∀x∈own,scope.names.lookup x=aS .local)/\(own++fr.map (·.1)).Nodup:=by
 unfold EW at h;simp only[Ab5,Ae0,gi,AH7] at h;exact⟨h.1.2,h.2⟩
theorem JJ(h:EW X.env.scope X.N scope own fr=true)(hi:own[i]?=aS x)(C:Addr)(ex:List Addr)(s:aT)(H:Hp):PG (Bd X scope own fr C ex s H) (.Name x px) (AN i):=by
 obtain⟨h1,h2⟩:=KU h;have hl:(relabel scope X.env).names.lookup x=aS .local:=lookup_relabel_local (h1 x (Ad0 hi));have dZ:=(Ab8.mp hi).1;refine BB h2 ?_ (.inl hl) (.inr hl);show (own++fr.map (·.1))[i]?=aS x;rw[Ad9 dZ];exact hi
theorem AD(hi:PI X (.Name x px) iter wi)
  (ht:∀C ex s H,pT (Bd X scope [x] (FV X.N scope) C ex s H) ifs tc) (he:∀C ex s H,PE (Bd X scope [x] (FV X.N scope) C ex s H) elt te)
  (hb:EW X.env.scope X.N scope [x] (FV X.N scope)=true:=by with_unfolding_all rfl) (hc:X.calm=true:=by rfl)
  (hs:∀x,Am5 iter X.env x=pure x:=by intro _;rfl):PE X (.ListComp elt [⟨.Name x px,iter,ifs,0⟩] scope pos) (G9 wi [x] (FV X.N scope) (AN 0) tc te):=
 LR hc (.of hb) hi (λC ex s H=>JJ hb rfl C ex s H) ht he hs
theorem C0{y x:Str}{py kM:Pos}(hN:X.N.Nodup)(uD:X.N[i]?=aS y)(hx:Loc X.env.scope y)(hi:PI X (.Name x px) iter wi)
  (ht:∀C ex s H,pT (Bd X scope [x] (FV X.N scope) C ex s H) ifs tc) (he:∀C ex s H,PE (Bd X scope [x] (FV X.N scope) C ex s H) elt te)
  (hb:EW X.env.scope X.N scope [x] (FV X.N scope)=true:=by with_unfolding_all rfl) (hc:X.calm=true:=by rfl)
  (uE:Av3 (.ListComp elt [⟨.Name x px,iter,ifs,0⟩] scope pos) (aS (.Name y py)) kM.line X.env=pure true:=by rfl)
  (hf:X.fn y=true\/X.env.scope.names.lookup y=aS .local:=by w_means)
  (hs:∀x,Am5 iter X.env x=pure x:=by intro _;rfl):
  PS X (.Assign [.Name y py] (.ListComp elt [⟨.Name x px,iter,ifs,0⟩] scope pos) kM) (NR (G9 wi [x] (FV X.N scope) (AN 0) tc te) (AN i)):=
 TH hN uD hx hc (.of hb) hi (λC ex s H=>JJ hb rfl C ex s H) ht he uE hf hs
theorem Vw{A B:Hp->Prop}(h:A H):MQ σ H (λb H3=>if b=true then A H3 else B H3):=by
 show (if true=true then A H else B H);exact Mq h
theorem Mp(Pv:Nat->List V->Hp->Prop)(h0:Pv 0 [] (upd H D (.lst [])))
  (hs:∀i c ys H,z.cps[i]?=aS c->Pv i ys H->Kp σ0 (σ0.set 0 (aS (.str ⟨#[c]⟩)))/\tc (σ0.set 0 (aS (.str ⟨#[c]⟩))) H λb H3=>
   if b=true then te (σ0.set 0 (aS (.str ⟨#[c]⟩))) H3 λy H4=>H4 D=aS (.lst ys)/\ys.length<sizeLine/\Pv (i+1) (ys++[y]) (upd H4 D (.lst (ys++[y]))) else Pv (i+1) ys H3)
  (hd:∀ys H,Pv z.cps.size ys H->Q (.ref D) H):
  DX (vS z) σ0 (AN 0) tc te Q H D:=by
 refine⟨λi m ys H=>m=z.cps.size - i/\i<=z.cps.size/\Pv i ys H,⟨_,rfl,Ad4 _,h0⟩,?_⟩;rintro i m ys H ⟨rfl,hi,p⟩;by_cases dZ:i<z.cps.size
 .refine .inr ⟨dZ,Pv (i+1),λku H' p'=>⟨z.cps.size - (i+1),by omega,rfl,dZ,p'⟩,λx H' y=>?_⟩;obtain⟨e,c,hc,e2⟩:=y;subst e e2;exact hs i c ys _ hc p
 .have e:i=z.cps.size:=by omega
  subst e;exact .inl ⟨Aa6 _,hd ys H p⟩
end
noncomputable def PQ(K:aU):List V->Hp->VK->Prop:=λxs H Q=>∃x n,xs=[x]/\Xl K x H n/\Q (.int n) H
noncomputable def WZ(K:aU):List V->Hp->VK->Prop:=λxs H Q=>∃(p:Addr) (ns:List Int),xs=[.ref p]/\bx K H p (ns.map V.int)/\Q (.int ns.sum) H
noncomputable def Xf(K:aU):List V->Hp->VK->Prop:=λxs H Q=>∃(p:Addr) (bs:List Bool),xs=[.ref p]/\bx K H p (bs.map V.bl)/\Q (.bl (bs.all id)) H
noncomputable def UG(K:aU):List V->Hp->VK->Prop:=λxs H Q=>∃x n t b,xs=[x, .ty n]/\fB K H x t/\Ai6 K t (.type n)=aS b/\Q (.bl b) H
noncomputable def K2(K:aU):List V->Hp->VK->Prop:=λxs H Q=>∃p ys,xs=[.ref p]/\(bx K H p ys\/dj K H p ys)/\∀l,H l=aV->Q (.ref l) (upd H l (.lst ys))
noncomputable def Nl(K:aU):List V->Hp->VK->Prop:=λxs H Q=>∃p ys,xs=[.ref p]/\((bx K H p ys/\∀l,H l=aV->Q (.ref l) (upd H l (.tup ys)))\/(dj K H p ys/\Q (.ref p) H))
noncomputable def Ta:List V->Hp->VK->Prop:=λxs H Q=>∃i:Int,xs=[.int i]/\i.natAbs.log2<1920/\Q (.str (toString i)) H
noncomputable def Xc(K:aU):V->List V->Hp->VK->Prop:=λx vs H Q=>∃(z:Str) (p:Addr) (ys:List Str),x= .str z/\vs=[.ref p]/\bx K H p (ys.map V.str)/\(ys.map (·.length)).sum+ys.length*z.length<=16777216/\Q (.str (Ak4 z ys)) H
noncomputable def uG:V->List V->Hp->VK->Prop:=λx vs H Q=>∃z y,x= .str z/\vs=[.str y]/\(y.length == 0)=false/\z.length+2<=sizeLine/\∀p,H p=aV->Q (.ref p) (upd H p (.lst ((Ai8 z y).map V.str)))
section
theorem AF(hK:X.K=K:=by rfl):BG X (.builtin "len") (PQ K):=by subst hK;exact Rl
theorem UE(hK:X.K=K:=by rfl)(hc:X.calm=true:=by rfl):BG X (.builtin "sum") (WZ K):=by subst hK;exact RC hc
theorem MA(hK:X.K=K:=by rfl)(hc:X.calm=true:=by rfl):BG X (.builtin "all") (Xf K):=by subst hK;exact Qj hc
theorem BP(hK:X.K=K:=by rfl):BG X (.builtin "isinstance") (UG K):=by subst hK;exact MY
theorem Gm(hK:X.K=K:=by rfl):BG X (.type "list") (K2 K):=by subst hK;exact Lb
theorem Ee(hK:X.K=K:=by rfl):BG X (.type "tuple") (Nl K):=by subst hK;exact J3
theorem HJ:BG X (.type "str") Ta:=L5
theorem LB(hK:X.K=K:=by rfl):rG X "str.join" (Xc K):=by subst hK;exact Uw
theorem FU:rG X "str.split" uG:=Qv
theorem Bt(hK:X.K=K:=by rfl):vQ X (VS K):=by subst hK;exact SO
theorem IY(hK:X.K=K:=by rfl):vQ X (V8 K):=by subst hK;exact WC
theorem XX(hK:X.K=K:=by rfl):gf X (Ak3 .In) (zf K false):=by subst hK;exact PM
theorem SN(hK:X.K=K:=by rfl):gf X (Ak3 .NotIn) (zf K true):=by subst hK;exact La
theorem Bs(hK:X.K=K:=by rfl):gf X (Ar2 .Add) (Nh K):=by subst hK;exact Ti
theorem DZ(hu:X.A.units<cLine)(hK:X.K=K:=by rfl):gf X (Ak3 .Eq) (MW K false):=by subst hK;exact We hu
theorem Rn(hu:X.A.units<cLine)(hK:X.K=K:=by rfl):gf X (Ak3 .NotEq) (MW K true):=by subst hK;exact Vo hu
theorem BY(hK:X.K=K:=by rfl):zd X (Vd K):=by subst hK;exact S0
theorem Bp{l:br}(hl:PE X l tl)(hK:X.K=K:=by rfl):PI X tg l (RE K tl):=by subst hK;exact Uy hl
theorem UT{l:br}(hl:PE X l tl)(hK:X.K=K:=by rfl):PI X tg l (VD K tl):=by subst hK;exact Ww hl
end
section
variable {s:aT}
theorem Inv.eV(ch:List Addr)(I:Inv X bu σ H s)(hf:∀b∈ch,Dq X bu H b)(k:∀b o,b∉ch->s.heap.get? b=aS o->h'.get? b=aS o):Inv X bu σ H { s with heap:=h',toks:=t' }:=by
 have wX:∀b u,H b=aS u->b∉ch:=λb u e z=>by rw[(hf b z).1] at e;cases e
 refine I.step (g':=s.gens) (d':=s.drawn) (ch:=ch) (λb hb=>?_) (λb o _ _ hc e _=>k b o hc e) (λb o _ _ hc e _=>⟨o.slots,k b o hc e⟩) (λ_ _ _ _ n=>n)
  (λb o hc e=>⟨o,k b o hc e⟩) (λ_ _ e=>e) (λ_ _ _ e=>e) (λb ps e=>⟨#[],by rw[e];simp⟩) (λm hm=>?_) (λb u e=>?_) I.bare
 .obtain⟨f0,f1,f2,f3,f4,f5⟩:=hf b hb;exact⟨f3,f1,f4,f5⟩
 .obtain⟨o,es,ep,ho,r⟩:=hm;exact⟨o,es,ep,k _ o (λz=>(hf _ z).2.1 rfl) ho,r⟩
 .refine(I.bO b u e).kc (λc v hc q=>k c v ?_ q) (λ_ q=>q) λ_ _ q=>q;rcases hc with z | z
  .rw[z];exact wX b u e
  .exact wX c _ z
end
noncomputable def uH(K:aU)(a:Addr):It:=
 ⟨λi H=>∃xs x,bx K H a xs/\xs[i]?=aS x,λi H v H'=>∃p x,H p=aV/\v= .ref p/\H'=upd H p (.tup [.int i,x])/\∀xs,bx K H a xs->xs[i]?=aS x,λi H=>∃xs,bx K H a xs/\xs.length<=i⟩
theorem Oi(h:Dq X bu H b)(n:b≠p):Dq X bu (upd H p o) b:=⟨by rw[An n];exact h.1,h.2⟩
theorem P9{k:Nat}(a e it:Addr)(gh:e≠it):
    Turn P w K (.Tuple elts k pos) (uH K a) [e,it] e (λi h=>(∃old,IsEnum h e it i old)/\h.IsListIter it a i) where
  mem:=by simp
  obj:=λi h st b hb=>by
    obtain⟨⟨old,he⟩,o,eo,c,d⟩:=st;rcases Aa7.mp hb with z | z
    · subst z;exact⟨_,he,λv z=>by cases (show Ax5 _=Ay9 v from z)⟩
    · have z:b=it:=by simpa using z
      subst z;exact⟨o,eo,λv z=>by rw[d] at z;cases z⟩
  keep:=λi h h' st kp=>by
    obtain⟨⟨old,he⟩,hi⟩:=st;exact⟨⟨old,kp e (by simp) _ he⟩,hi.at λo z=>kp it (by simp) o z⟩
  item:=by
    intro X hP hw hK hc i bu s σ H E I hf st hg;subst hP hw hK;obtain⟨xs,x,hq,hx⟩:=hg;obtain⟨its,rv,p,hz⟩:=I.list hq;obtain⟨u,hu,ru⟩:=rv.get hx;obtain⟨⟨old,he⟩,hi⟩:=st;have hel:e<s.heap.objs.size:=Ab1 he;have xA:it<s.heap.objs.size:=by obtain⟨_,z,_⟩:=hi;exact Ab1 z
    refine wpAny_pyNext_enum_item he hi p.isList (x:=u) (by simpa using hu) gh λh' ho gn hT hsz hk=>?_;have I0:=I.laid (h':=s.heap.push { cls:= .type "tuple",data:= .seq #[.int i s.toks,u] }) (a:=s.heap.objs.size) (o:= .tup [.int i,x]) (t':=s.toks+1) (λ_ _ q=>Aa4 _ q) (Aa6 _)
      ⟨(by show 2<=sizeLine;decide),[.int i s.toks,u], .cons ⟨_,rfl⟩ (.cons ru .nil),⟨_,Ab9 _ rfl,rfl,_,rfl⟩⟩
    have f0:∀b∈[e,it],Dq X bu (upd H s.heap.objs.size (.tup [.int i,x])) b:=λb hb=>Oi (hf b hb) (by
      rcases Aa7.mp hb with z | z
      · rw[z];exact Ac8 hel
      · rw[show b=it by simpa using z];exact Ac8 xA)
    have I1:=Inv.eV (t':=s.toks+1) (h':=h') [e,it] I0 f0 (λb o hb z=>by
      have hb1:b≠e:=λq=>hb (by simp[q]);have kB:b≠it:=λq=>hb (by simp[q]);rcases AC4 (show (s.heap.push { cls:= .type "tuple",data:= .seq #[.int i s.toks,u] }).get? b=aS o from z) with ⟨q1,q2⟩ | q
      · rw[q1,q2];exact hT
      · exact hk b o hb1 kB q)
    refine⟨.ref s.heap.objs.size,rfl,wpAny_letOwnedTupleGo_enum (s:={ s with heap:=h',toks:=s.toks+1 }) ho λh2 he2 sb=>?_⟩;refine⟨.ref s.heap.objs.size,_,Inv.eV (t':=s.toks+1) (h':=h2) [e,it] I1 f0 (λb o hb z=>(sb.2 b λq=>hb (by simp[q])).trans z),rfl,⟨_,x,I.fresh,rfl,rfl,λys hy=>by rw[I.kG hy hq];exact hx⟩,⟨⟨u,by simpa using he2⟩,gn.at λo z=>(sb.2 it gh.symm).trans z⟩,λb hb=>(f0 b hb).1⟩
  done:=by
    intro X hP hw hK hc i bu s σ H E I hf st hg;subst hP hw hK;obtain⟨xs,hq,hx⟩:=hg;obtain⟨its,rv,p,hz⟩:=I.list hq;obtain⟨⟨old,he⟩,hi⟩:=st;have hl:=rv.length;exact wpAny_pyNext_enum_end (I.ok.hd hc) he hi p.isList (by simp;omega) λh' eb=>⟨rfl,I.eV (t':=s.toks) [e,it] hf λb o hb z=>eb b o (λq=>hb (by simp[q])) z⟩
  self:=λ_ _ _ _ _ st h=>by
    obtain⟨⟨old,he⟩,_⟩:=st;exact Az7 he h
section
variable {k:Nat}{oh:Pos}
noncomputable def U2(K:aU)(ta:TA):TI:=λσ H R=>ta σ H λvs H1=>∃a,vs=[.ref a]/\(∃xs,bx K H1 a xs)/\R (uH K a) H1
theorem KL:Am4 "enumerate"=aS (.type "enumerate"):=by decide +kernel
theorem QE:Am4 "zip"=aS (.type "zip"):=by decide +kernel
theorem L4{l:br}(hg:Gl X "enumerate")(hm:X.mg "enumerate"=aV)(ha:PA X [l] ta)(hK:X.K=K:=by rfl)(hs:aZ [l] X.env=[(false,bh l X.env)]:=by rfl):PI X (.Tuple elts k oh) (.Call (.Name "enumerate" p) [l] [] pos) (U2 K ta):=by
 subst hK;intro bu s σ H R I h;refine Call_ (Es I hg hm KL (Al6 (bZ (ha pos bu s σ H _ I h) λus s1 ⟨vs,H1,I1,r1,q1⟩=>?_) hs rfl));obtain⟨a,e,⟨xs,hq⟩,q⟩:=q1;subst e;cases r1 with
 | cons r rr=>
  cases rr;cases r;obtain⟨its,rv,pl,hz⟩:=I1.list hq;refine call_enumerate_list pl.isList λh' he hi hsz hk=>?_;refine Az7 he ?_;have I2:=I1.kept (t':=s1.toks) hk;refine⟨s1.heap.objs.size+1,[s1.heap.objs.size+1,s1.heap.objs.size],_,_,H1,rfl,I2,P9 a _ _ (Nat.succ_ne_self _),⟨⟨_,he⟩,hi⟩,λb hb=>?_,q⟩;have qx:s1.heap.objs.size<=b:=by
   rcases Aa7.mp hb with z | z
   .rw[z];exact Ag5 _
   .have z:b=s1.heap.objs.size:=by simpa using z
    rw[z];exact Aa6 _
  exact I1.kH qx (I1.bO.fresh qx)
end
noncomputable def Cd(tp:Bool)(h:Heap)(it l:Addr)(i:Nat):Prop:=if tp=true then h.IsTupleIter it l i else h.IsListIter it l i
noncomputable def Cf(tp:Bool)(h:Heap)(l:Addr)(xs:Array Value):Prop:=if tp=true then h.IsTuple l xs else h.IsList l xs
theorem AW(x:Cd tp h it l i)(k:∀o,h.get? it=aS o->h'.get? it=aS o):Cd tp h' it l i:=by
 cases tp with
 | false=>obtain⟨o,e,r⟩:=(show h.IsListIter it l i from x);exact(show h'.IsListIter it l i from⟨o,k o e,r⟩)
 | true=>obtain⟨o,e,r⟩:=(show h.IsTupleIter it l i from x);exact(show h'.IsTupleIter it l i from⟨o,k o e,r⟩)
theorem Dd{xs:Array Value}(x:Cf tp h l xs)(k:∀o,h.get? l=aS o->h'.get? l=aS o):Cf tp h' l xs:=by
 cases tp with
 | false=>obtain⟨o,e,r⟩:=(show h.IsList l xs from x);exact(show h'.IsList l xs from⟨o,k o e,r⟩)
 | true=>obtain⟨o,e,r⟩:=(show h.IsTuple l xs from x);exact(show h'.IsTuple l xs from⟨o,k o e,r⟩)
theorem BX(x:Cd tp h it l i):∃o,h.get? it=aS o/\o.data= .fields #[.ref l, .int i 0]:=by
 cases tp with
 | false=>obtain⟨o,e,_,d⟩:=(show h.IsListIter it l i from x);exact⟨o,e,d⟩
 | true=>obtain⟨o,e,_,d⟩:=(show h.IsTupleIter it l i from x);exact⟨o,e,d⟩
theorem FS{xs:Array Value}(x:Cf tp h l xs):∃o n,h.get? l=aS o/\o.data= .seq xs n:=by
 cases tp with
 | false=>obtain⟨o,e,_,n,d⟩:=(show h.IsList l xs from x);exact⟨o,n,e,d⟩
 | true=>obtain⟨o,e,_,n,d⟩:=(show h.IsTuple l xs from x);exact⟨o,n,e,d⟩
section
variable {prog:Program}{s:aT}
theorem Hf{xs:Array Value}{Q:Value->aT->Prop}(ht:Cd tp s.heap it l i)(hq:Cf tp s.heap l xs)(hx:xs[i]?=aS x)
  (k:∀h',Cd tp h' it l (i+1)->Ao8 it s.heap h'->Q x { s with heap:=h' }):aW (aX prog w) A (Ak1 (.ref it)) Q E s:=by
 cases tp with
 | false=>exact wpAny_nextOf_list_item (show s.heap.IsListIter it l i from ht) (show s.heap.IsList l xs from hq) hx k
 | true=>
  have ht:s.heap.IsTupleIter it l i:=ht;obtain⟨ob,eb,cb,db⟩:=id ht;obtain⟨ol,el,_,nl,dl⟩:=(show s.heap.IsTuple l xs from hq);unfold Ak1;refine Aa1 (Ag2 (name:=Ai9 "__next__") ht.typeIs Ar1 (As0 Ar1 ht.typeIs F.entry_tuple_iterator_next ?_ (AK2 _)));show aW _ _ (field (.ref it) 0 >>= _) _ _ s;refine Aa1 (Ad8 eb db (x:= .ref l) rfl ?_);show aW _ _ (if (aY l == Aj8)=true then _ else _) _ _ s;rw[bG (show ¬ ((aY l == Aj8)=true) from Ab3)];show aW _ _ (field (.ref it) 1 >>= _) _ _ s;refine Aa1 (Ad8 eb db (x:= .int i 0) rfl ?_);show aW _ _ (seqItems? (.ref l) >>= _) _ _ s;refine Aa1 (Ag9 el dl ?_);simp only[Ad3,hx];refine Aa1 (Ay8 eb db (by simp) (Ab2 ⟨x,rfl,Ab2 (k _ ?_ (AI2 ..))⟩));exact(show Heap.IsTupleIter _ it l (i+1) from⟨_,Ae7 _ eb (AC0 (Ap0 db _)),(Obj.cls_mapFields ..).trans cb,by rw[Ap0 db];simp[Ay6]⟩)
theorem IB{xs:Array Value}{Q:Value->aT->Prop}(hh:A.handled=aV)(ht:Cd tp s.heap it l i)(hq:Cf tp s.heap l xs)(hx:xs[i]?=aV)
  (k:∀h' e,Heap.ExtBut it s.heap h'->(∃o,h'.get? e=aS o/\o.cls= .type "StopIteration")->E (.ref e) { s with heap:=h' }):aW (aX prog w) A (Ak1 (.ref it)) Q E s:=by
 cases tp with
 | false=>exact wpAny_nextOf_list_end hh (show s.heap.IsListIter it l i from ht) (show s.heap.IsList l xs from hq) hx k
 | true=>
  have ht:s.heap.IsTupleIter it l i:=ht;obtain⟨ob,eb,cb,db⟩:=id ht;obtain⟨ol,el,_,nl,dl⟩:=(show s.heap.IsTuple l xs from hq);unfold Ak1;refine Aa1 (Ag2 (name:=Ai9 "__next__") ht.typeIs Ar1 (As0 Ar1 ht.typeIs F.entry_tuple_iterator_next ?_ (AK2 _)));show aW _ _ (field (.ref it) 0 >>= _) _ _ s;refine Aa1 (Ad8 eb db (x:= .ref l) rfl ?_);show aW _ _ (if (aY l == Aj8)=true then _ else _) _ _ s;rw[bG (show ¬ ((aY l == Aj8)=true) from Ab3)];show aW _ _ (field (.ref it) 1 >>= _) _ _ s;refine Aa1 (Ad8 eb db (x:= .int i 0) rfl ?_);show aW _ _ (seqItems? (.ref l) >>= _) _ _ s;refine Aa1 (Ag9 el dl ?_);simp only[Ad3,hx];refine Aa1 (wpAny_rule (Aa1 (Ay8 eb db (by simp) ?_)));show aW _ _ (newExc (.type "StopIteration") [] >>= _) _ _ _;refine Aa1 ?_;simp only[newExc,newTuple];refine Aa1 (Az5 ?_ (by size_fits));refine Aa1 (m:=firstArgMember _ _) (wpAny_of_eq (a:=Aj8) (by first | rfl | (simp only[firstArgMember];rfl)) ?_);refine Az5 ?_ (by size_fits);simp only[raiseNew];refine Aa1 (wpAny_handled ?_)
  first | rw[show A.in1.handled=aV from hh] | rw[hh]
  exact Aa1 (Ab2 (wpAny_throw (k _ _ (((AI2 ..).extBut.push _).push _) ⟨_,Ab9 _ rfl,rfl⟩)))
end
section
variable {prog:Program}{s:aT}
structure pG(t1 t2:Bool)(h:Heap)(z TI TO i1 i2 l1 l2:Addr)(k:Nat):Prop where
 hz:IsZip h z TI TO .none
 qL:AE6 h TI (.ref i1) (.ref i2)
 rJ:∃c d,AE6 h TO c d
 h1:Cd t1 h i1 l1 k
 h2:Cd t2 h i2 l2 k
theorem Qe{z TI TO i1 i2 l1 l2:Addr}{xs ys:Array Value}{x y:Value}{Q:Value->aT->Prop}(D:ZipApart z TI TO i1 i2 l1 l2)(Z:pG t1 t2 s.heap z TI TO i1 i2 l1 l2 k)
  (q1:Cf t1 s.heap l1 xs) (q2:Cf t2 s.heap l2 ys) (hx:xs[k]?=aS x) (hy:ys[k]?=aS y)
  (fin:∀h',IsZip h' z TI TO (Ay6 s.heap.objs.size)->AE6 h' TO x y->Cd t1 h' i1 l1 (k+1)->Cd t2 h' i2 l2 (k+1)->AE6 h' s.heap.objs.size x y->
   (∀c o,c≠z->c≠TO->c≠i1->c≠i2->s.heap.get? c=aS o->h'.get? c=aS o)->Q (.ref s.heap.objs.size) { s with heap:=h' }):
  aW (aX prog w) A (Aq7.«zip.__next__» ⟨[.ref z],[]⟩) (λfin s'=>∃v,fin= .done (.ret v)/\Q v s') E s:=by
 obtain⟨hz,qL,⟨c0,d0,rJ⟩,g1,g2⟩:=Z;show aW _ _ (field (.ref z) 2 >>= _) _ _ _;refine Aa1 (Ad8 hz rfl (x:= .bool false) rfl ?_);show aW _ _ (field (.ref z) 3 >>= _) _ _ _;refine Aa1 (Ad8 hz rfl (x:= .ref TI) rfl (Aa1 (Ag9 qL rfl ?_)));show aW _ _ (Am6 (.ref z) >>= _) _ _ _;refine Aa1 ?_;unfold Am6;refine Aa1 (Ad8 hz rfl (x:= .none) rfl (Ab2 ?_));simp only[if_true];refine Aa1 (wpAny_rule (Aa1 (Ad8 hz rfl (x:= .ref TO) rfl (Aa1 (Ai1 hz (by simp) λa1 za b1=>?_)))));replace za:IsZip a1 z TI TO .ellipsis:=za;refine Aa1 ?_;simp only[List.zipIdx_cons,List.zipIdx_nil,AA6,List.forIn_nil];refine Aa1 (Aa1 (AA9 ?_));show aW _ _ (Ak1 (.ref i1) >>= _) _ _ _;refine Aa1 (Hf (s:={ s with heap:=a1 }) (AW g1 λo e=>b1.extBut _ o D.i1z e) (Dd q1 λo e=>b1.extBut _ o D.l1z e) hx λa2 i1a b2=>Ab2 ?_);have to2:AE6 a2 TO c0 d0:=b2.extBut _ _ D.TOi1 (b1.extBut _ _ D.TOz rJ);refine Aa1 (Ag9 to2 rfl (Aa1 (AE7 to2 λa3 to3 b3=>?_)));replace to3:AE6 a3 TO x d0:=to3;refine Aa1 (wpAny_letGo (Ab2 (Aa1 (Aa1 (AA9 ?_)))));show aW _ _ (Ak1 (.ref i2) >>= _) _ _ _;have uI:∀c o,c≠z->c≠i1->c≠TO->s.heap.get? c=aS o->a3.get? c=aS o:=λc o n1 n2 n3 e=>b3.extBut _ o n3 (b2.extBut _ o n2 (b1.extBut _ o n1 e));refine Aa1 (Hf (s:={ s with heap:=a3 }) (AW g2 λo e=>uI _ o D.i2z D.i12.symm D.TOi2.symm e) (Dd q2 λo e=>uI _ o D.l2z D.l2i1 D.l2TO e) hy λa4 i2a b4=>Ab2 ?_);have to4:AE6 a4 TO x d0:=b4.extBut _ _ D.TOi2 to3;refine Aa1 (Ag9 to4 rfl (Aa1 (AE7 to4 λa5 zh b5=>?_)));replace zh:AE6 a5 TO x y:=zh;refine Aa1 (wpAny_letGo (Ab2 (Ab2 (Aa1 (Ag9 zh rfl (Aa1 (wpAny_newTuple ?_)))))));have sz:a5.objs.size=s.heap.objs.size:=by rw[b5.1,b4.1,b3.1,b2.1,b1.1]
 have z5:IsZip a5 z TI TO .ellipsis:=b5.extBut _ _ D.TOz.symm (b4.extBut _ _ D.i2z.symm (b3.extBut _ _ D.TOz.symm (b2.extBut _ _ D.i1z.symm za)));have k5:∀c o,c≠z->c≠TO->c≠i1->c≠i2->s.heap.get? c=aS o->a5.get? c=aS o:=λc o n1 n2 n3 n4 e=>b5.extBut _ _ n2 (b4.extBut _ _ n4 (uI c o n1 n3 n2 e));have f1:Cd t1 a5 i1 l1 (k+1):=AW i1a λo e=>b5.extBut _ o D.TOi1.symm (b4.extBut _ o D.i12 (b3.extBut _ o D.TOi1.symm e));have f2:Cd t2 a5 i2 l2 (k+1):=AW i2a λo e=>b5.extBut _ o D.TOi2.symm e;have zlt:z<a5.objs.size:=Ab1 z5;show aW _ _ (Aw8 (.ref z) (.ref a5.objs.size) >>= _) _ _ _;refine Aa1 ?_;unfold Aw8;have z6:IsZip (a5.push { cls:= .type "tuple",data:= .seq #[x,y] }) z TI TO .ellipsis:=Aa4 _ z5;refine Aa1 (Ai1 z6 (by simp) λa7 z7 b7=>?_);replace z7:IsZip a7 z TI TO (Ay6 a5.objs.size):=z7;refine Ai1 z7 (by simp) λa8 z8 b8=>?_;replace z8:IsZip a8 z TI TO (Ay6 a5.objs.size):=z8;have up:∀c o,c≠z->a5.get? c=aS o->a8.get? c=aS o:=λc o n e=>b8.extBut _ _ n (b7.extBut _ _ n (Aa4 _ e));have t8:AE6 a8 a5.objs.size x y:=b8.extBut _ _ (AF9 zlt) (b7.extBut _ _ (AF9 zlt) (Ab9 _ rfl));rw[sz] at z8 t8;refine Ab2 ⟨_,rfl,?_⟩;show Q (.ref a5.objs.size) _;rw[sz];exact fin a8 z8 (up _ _ D.TOz zh) (AW f1 λo e=>up _ o D.i1z e) (AW f2 λo e=>up _ o D.i2z e) t8 λc o n1 n2 n3 n4 e=>up c o n1 (k5 c o n1 n2 n3 n4 e)
theorem Ra{z TI TO i1 i2 l1 l2:Addr}{xs ys:Array Value}{Q:Fin->aT->Prop}(hh:A.handled=aV)(D:ZipApart z TI TO i1 i2 l1 l2)(Z:pG t1 t2 s.heap z TI TO i1 i2 l1 l2 k)
  (q1:Cf t1 s.heap l1 xs) (q2:Cf t2 s.heap l2 ys) (aak:xs[k]?=aV\/ys[k]?=aV)
  (fin:∀h' e,(∀c o,c≠z->c≠TO->c≠i1->c≠i2->s.heap.get? c=aS o->h'.get? c=aS o)->(∃o,h'.get? e=aS o/\o.cls= .type "StopIteration")->E (.ref e) { s with heap:=h' }):
  aW (aX prog w) A (Aq7.«zip.__next__» ⟨[.ref z],[]⟩) Q E s:=by
 obtain⟨hz,qL,⟨c0,d0,rJ⟩,g1,g2⟩:=Z;show aW _ _ (field (.ref z) 2 >>= _) _ _ _;refine Aa1 (Ad8 hz rfl (x:= .bool false) rfl ?_);show aW _ _ (field (.ref z) 3 >>= _) _ _ _;refine Aa1 (Ad8 hz rfl (x:= .ref TI) rfl (Aa1 (Ag9 qL rfl ?_)));show aW _ _ (Am6 (.ref z) >>= _) _ _ _;refine Aa1 ?_;unfold Am6;refine Aa1 (Ad8 hz rfl (x:= .none) rfl (Ab2 ?_));simp only[if_true];refine Aa1 (wpAny_rule (Aa1 (Ad8 hz rfl (x:= .ref TO) rfl (Aa1 (Ai1 hz (by simp) λa1 za b1=>?_)))));replace za:IsZip a1 z TI TO .ellipsis:=za;refine Aa1 ?_;simp only[List.zipIdx_cons,List.zipIdx_nil,AA6,List.forIn_nil];refine Aa1 (Aa1 (AA9 ?_));show aW _ _ (Ak1 (.ref i1) >>= _) _ _ _;have zj:=AW g1 λo e=>b1.extBut _ o D.i1z e;have q1':=Dd q1 λo e=>b1.extBut _ o D.l1z e;cases hx:xs[k]? with
 | none=>
  refine Aa1 (IB (s:={ s with heap:=a1 }) hh zj q1' hx λa2 e b2 he=>?_);obtain⟨oe,eo,ce⟩:=he;have z2:IsZip a2 z TI TO .ellipsis:=b2 _ _ D.i1z.symm za;have nz:e≠z:=λq=>by subst q;rw[z2] at eo;cases eo;simp at ce
  exact Ai1 z2 (by simp) λa3 _ b3=>fin a3 e (λc o n1 _ n3 _ q=>b3.extBut _ _ n1 (b2 _ _ n3 (b1.extBut _ _ n1 q))) ⟨oe,b3.extBut _ _ nz eo,ce⟩
 | some x=>
  have hy:ys[k]?=none:=by
   rcases aak with q | q
   .rw[hx] at q;cases q
   .exact q
  refine Aa1 (Hf (s:={ s with heap:=a1 }) zj q1' hx λa2 i1a b2=>Ab2 ?_);have to2:AE6 a2 TO c0 d0:=b2.extBut _ _ D.TOi1 (b1.extBut _ _ D.TOz rJ);refine Aa1 (Ag9 to2 rfl (Aa1 (AE7 to2 λa3 to3 b3=>?_)));refine Aa1 (wpAny_letGo (Ab2 (Aa1 (Aa1 (AA9 ?_)))));show aW _ _ (Ak1 (.ref i2) >>= _) _ _ _;have uI:∀c o,c≠z->c≠i1->c≠TO->s.heap.get? c=aS o->a3.get? c=aS o:=λc o n1 n2 n3 e=>b3.extBut _ o n3 (b2.extBut _ o n2 (b1.extBut _ o n1 e));refine Aa1 (IB (s:={ s with heap:=a3 }) hh (AW g2 λo e=>uI _ o D.i2z D.i12.symm D.TOi2.symm e) (Dd q2 λo e=>uI _ o D.l2z D.l2i1 D.l2TO e) hy λa4 e b4 he=>?_);obtain⟨oe,eo,ce⟩:=he;have z4:IsZip a4 z TI TO .ellipsis:=b4 _ _ D.i2z.symm (b3.extBut _ _ D.TOz.symm (b2.extBut _ _ D.i1z.symm za));have nz:e≠z:=λq=>by subst q;rw[z4] at eo;cases eo;simp at ce
  exact Ai1 z4 (by simp) λa5 _ b5=>fin a5 e (λc o n1 n2 n3 n4 q=>b5.extBut _ _ n1 (b4 _ _ n4 (uI c o n1 n3 n2 q))) ⟨oe,b5.extBut _ _ nz eo,ce⟩
noncomputable def Kk(tp:Bool):String:=if tp=true then "tuple_iterator" else "list_iterator"
theorem JG{xs:Array Value}{Q:Value->aT->Prop}(hq:Cf tp s.heap l xs)(k:Q (.ref s.heap.objs.size) { s with heap:=s.heap.push { cls:= .type (Kk tp),data:= .fields #[.ref l, .int 0 0] } }):
  aW (aX prog w) A (pyIter (.ref l)) Q E s:=by
 cases tp with
 | false=>exact AI0 (show s.heap.IsList l xs from hq) k
 | true=>exact wpAny_pyIter_tuple (show s.heap.IsTuple l xs from hq) k
theorem Hi:Cd tp (h.push { cls:= .type (Kk tp),data:= .fields #[.ref l, .int 0 0] }) h.objs.size l 0:=by
 cases tp with
 | false=>exact(show Heap.IsListIter _ _ l 0 from⟨_,Ab9 _ rfl,rfl,rfl⟩)
 | true=>exact(show Heap.IsTupleIter _ _ l 0 from⟨_,Ab9 _ rfl,rfl,rfl⟩)
noncomputable abbrev zk(t1:Bool)(h:Heap)(l1:Addr):Heap:=h.push { cls:= .type (Kk t1),data:= .fields #[.ref l1, .int 0 0] }
noncomputable abbrev xB(t1 t2:Bool)(h:Heap)(l1 l2:Addr):Heap:=(zk t1 h l1).push { cls:= .type (Kk t2),data:= .fields #[.ref l2, .int 0 0] }
noncomputable abbrev zm(t1 t2:Bool)(h:Heap)(l1 l2:Addr):Heap:=(xB t1 t2 h l1 l2).push { cls:= .type "tuple",data:= .seq #[.ref h.objs.size, .ref (zk t1 h l1).objs.size] }
noncomputable abbrev zo(t1 t2:Bool)(h:Heap)(l1 l2:Addr):Heap:=(zm t1 t2 h l1 l2).push { cls:= .type "tuple",data:= .seq #[.none, .none] }
noncomputable abbrev uJ(t1 t2:Bool)(h:Heap)(l1 l2:Addr):Heap:=(zo t1 t2 h l1 l2).push { cls:= .type "zip",data:= .fields #[.none, .bool false, .bool false, .ref (xB t1 t2 h l1 l2).objs.size, .ref (zm t1 t2 h l1 l2).objs.size] }
theorem N7(t1 t2:Bool)(l1 l2:Addr)(xs ys:Array Value):
  Meets (Aq7.«zip.__new__» ⟨[.type "zip", .ref l1, .ref l2],[]⟩) (λ_ R s=>Cf t1 s.heap l1 xs/\Cf t2 s.heap l2 ys/\
   R (.ok (.ret (.ref (zo t1 t2 s.heap l1 l2).objs.size))) { s with heap:=uJ t1 t2 s.heap l1 l2 }):=
 .of_wp λprog w A R s h=>by
  obtain⟨hp,g,d,tk,os⟩:=s;obtain⟨m1,m2,h⟩:=h;have xC:=sub_zip;have M1:Cf t1 (Shared.heap ⟨hp,g,d,tk,os⟩) l1 xs:=m1;have M2:Cf t2 (Shared.heap ⟨hp.push { cls:= .type (Kk t1),data:= .fields #[.ref l1, .int 0 0] },g,d,tk,os⟩) l2 ys:=Dd m2 λo e=>Aa4 _ e
  wp_walk using JG M1,JG M2
  exact⟨_,rfl,h⟩
theorem Pj{xs ys:Array Value}{Q:Value->aT->Prop}(m1:Cf t1 s.heap l1 xs)(m2:Cf t2 s.heap l2 ys)
  (k:∀h',pG t1 t2 h' (s.heap.objs.size+4) (s.heap.objs.size+2) (s.heap.objs.size+3) s.heap.objs.size (s.heap.objs.size+1) l1 l2 0->
   (∀c o,s.heap.get? c=aS o->h'.get? c=aS o)->Q (.ref (s.heap.objs.size+4)) { s with heap:=h' }):
  aW (aX prog w) A (call (.type "zip") [.ref l1, .ref l2]) Q E s:=by
 refine callType_new F.called_zip (by decide) (F.typeCall_zip_2 _ _) (F.newCall_zip_2 _ _) (λobj=>F.args_object_init_3 obj _ _) F.entry_zip_new (N7 t1 t2 l1 l2 xs ys) ⟨m1,m2,?_⟩;have n1:(zk t1 s.heap l1).objs.size=s.heap.objs.size+1:=Ai5 ..;have n2:(xB t1 t2 s.heap l1 l2).objs.size=s.heap.objs.size+2:=by rw[Ai5,n1]
 have n3:(zm t1 t2 s.heap l1 l2).objs.size=s.heap.objs.size+3:=by rw[Ai5,n2]
 have n4:(zo t1 t2 s.heap l1 l2).objs.size=s.heap.objs.size+4:=by rw[Ai5,n3]
 have g5:(uJ t1 t2 s.heap l1 l2).get? (zo t1 t2 s.heap l1 l2).objs.size=aS _:=Ab9 _ rfl;have g4:(uJ t1 t2 s.heap l1 l2).get? (zm t1 t2 s.heap l1 l2).objs.size=aS _:=Aa4 _ (Ab9 _ rfl);have g3:(uJ t1 t2 s.heap l1 l2).get? (xB t1 t2 s.heap l1 l2).objs.size=aS _:=Aa4 _ (Aa4 _ (Ab9 _ rfl));have up2:∀c o,(xB t1 t2 s.heap l1 l2).get? c=aS o->(uJ t1 t2 s.heap l1 l2).get? c=aS o:=λc o e=>Aa4 _ (Aa4 _ (Aa4 _ e));have s2:Cd t2 (uJ t1 t2 s.heap l1 l2) (zk t1 s.heap l1).objs.size l2 0:=AW Hi λo e=>up2 _ o e;have s1:Cd t1 (uJ t1 t2 s.heap l1 l2) s.heap.objs.size l1 0:=AW Hi λo e=>up2 _ o (Aa4 _ e);show _/\_;rw[n2,n3,n4] at g5;rw[n1,n2] at g3;rw[n3] at g4;rw[n1] at s2;rw[n4];exact⟨⟨_,g5,rfl⟩,k _ ⟨g5,g3,⟨_,_,g4⟩,s1,s2⟩ λc o e=>up2 c o (Aa4 _ (Aa4 _ e))⟩
end
noncomputable def gZ(tp:Bool)(K:aU)(H:Hp)(a:Addr)(xs:List V):Prop:=if tp=true then dj K H a xs else bx K H a xs
theorem CS{s:aT}(I:Inv X bu σ H s)(h:gZ tp X.K H a xs):∃its:List Value,Vals xs its/\Cf tp s.heap a its.toArray:=by
 cases tp with
 | false=>
  obtain⟨its,r,p,_⟩:=I.list (show bx X.K H a xs from h);exact⟨its,r,(show s.heap.IsList a its.toArray from p.isList)⟩
 | true=>
  obtain⟨its,r,p,_⟩:=I.tuple (show dj X.K H a xs from h);exact⟨its,r,(show s.heap.IsTuple a its.toArray from p)⟩
theorem LL(I:Inv X bu σ H s)(h:gZ tp X.K H a xs)(h2:gZ tp X.K H a ys):xs=ys:=by
 cases tp with
 | false=>exact I.kG h h2
 | true=>exact I.lB h h2
noncomputable def zq(t1 t2:Bool)(K:aU)(a b:Addr):It:=
  ⟨λi H=>∃xs ys x y,gZ t1 K H a xs/\gZ t2 K H b ys/\xs[i]?=aS x/\ys[i]?=aS y,
   λi H v H'=>∃p x y,H p=aV/\v= .ref p/\H'=upd H p (.tup [x,y])/\(∀xs,gZ t1 K H a xs->xs[i]?=aS x)/\∀ys,gZ t2 K H b ys->ys[i]?=aS y,
   λi H=>∃xs ys,gZ t1 K H a xs/\gZ t2 K H b ys/\(xs.length<=i\/ys.length<=i)⟩
theorem UB{k:Nat}(t1 t2:Bool)(a b z TI TO i1 i2:Addr)(D:ZipApart z TI TO i1 i2 a b):
    Turn P w K (.Tuple elts k pos) (zq t1 t2 K a b) [z,TI,TO,i1,i2] z (λi h=>pG t1 t2 h z TI TO i1 i2 a b i) where
  mem:=by simp
  obj:=λi h st c hc=>by
    obtain⟨hz,qL,⟨x,y,rJ⟩,h1,h2⟩:=st;obtain⟨o1,e1,d1⟩:=BX h1;obtain⟨o2,e2,d2⟩:=BX h2;simp only[Aa7,Az0,or_false] at hc;rcases hc with q | q | q | q | q
    · subst q;exact⟨_,hz,λv z=>by cases (show Ax5 _=Ay9 v from z)⟩
    · subst q;exact⟨_,qL,λv z=>by cases (show Data.seq _ _=Ay9 v from z)⟩
    · subst q;exact⟨_,rJ,λv z=>by cases (show Data.seq _ _=Ay9 v from z)⟩
    · subst q;exact⟨o1,e1,λv z=>by rw[d1] at z;cases z⟩
    · subst q;exact⟨o2,e2,λv z=>by rw[d2] at z;cases z⟩
  keep:=λi h h' st kp=>by
    obtain⟨hz,qL,⟨x,y,rJ⟩,h1,h2⟩:=st;exact⟨kp z (by simp) _ hz,kp TI (by simp) _ qL,⟨x,y,kp TO (by simp) _ rJ⟩,AW h1 λo q=>kp i1 (by simp) o q,AW h2 λo q=>kp i2 (by simp) o q⟩
  item:=by
    intro X hP hw hK hc i bu s σ H E I hf st hg;subst hP hw hK;obtain⟨xs,ys,x,y,zu,vU,hx,hy⟩:=hg;obtain⟨its,rv,p1⟩:=CS I zu;obtain⟨cE,jK,p2⟩:=CS I vU;obtain⟨u,hu,ru⟩:=rv.get hx;obtain⟨u2,hu2,xy⟩:=jK.get hy;have lt:∀q∈[z,TI,TO,i1,i2],q<s.heap.objs.size:=λq hq=>by
      obtain⟨hz,qL,⟨c,d,rJ⟩,h1,h2⟩:=id st;obtain⟨_,e1,_⟩:=BX h1;obtain⟨_,e2,_⟩:=BX h2;simp only[Aa7,Az0,or_false] at hq;rcases hq with q' | q' | q' | q' | q'
      · subst q';exact Ab1 hz
      · subst q';exact Ab1 qL
      · subst q';exact Ab1 rJ
      · subst q';exact Ab1 e1
      · subst q';exact Ab1 e2
    have xD:s.TypeIs (.ref z) "zip":=⟨_,st.hz,rfl⟩;unfold pyNext;refine Aa1 (Aw0 (Ag2 (name:=Ai9 "__next__") xD AC5 (As0 AC5 xD F.entry_zip_next
      (Qe D st p1 p2 (x:=u) (y:=u2) (by simpa using hu) (by simpa using hu2) λh' vV aal qK rH hT hk=>Ab2 ?_) (F.args_zip_next_1 _))))
    have I0:=I.laid (h':=s.heap.push { cls:= .type "tuple",data:= .seq #[u,u2] }) (a:=s.heap.objs.size) (o:= .tup [x,y]) (t':=s.toks) (λ_ _ q=>Aa4 _ q) (Aa6 _)
      ⟨(by show 2<=sizeLine;decide),[u,u2], .cons ru (.cons xy .nil),⟨_,Ab9 _ rfl,rfl,_,rfl⟩⟩
    have f0:∀b∈[z,TI,TO,i1,i2],Dq X bu (upd H s.heap.objs.size (.tup [x,y])) b:=λb hb=>Oi (hf b hb) (Ac8 (lt b hb));have I1:=Inv.eV (t':=s.toks) (h':=h') [z,TI,TO,i1,i2] I0 f0 (λb o hb q=>by
      rcases AC4 (show (s.heap.push { cls:= .type "tuple",data:= .seq #[u,u2] }).get? b=aS o from q) with ⟨q1,q2⟩ | q
      · rw[q1,q2];exact hT
      · exact hk b o (λe=>hb (by simp[e])) (λe=>hb (by simp[e])) (λe=>hb (by simp[e])) (λe=>hb (by simp[e])) q)
    refine⟨.ref s.heap.objs.size,rfl,wpAny_letOwnedTupleGo_zip (s:={ s with heap:=h' }) vV λh3 hz3 sb=>?_⟩;refine⟨.ref s.heap.objs.size,_,Inv.eV (t':=s.toks) (h':=h3) [z,TI,TO,i1,i2] I1 f0 (λb o hb q=>(sb.2 b λe=>hb (by simp[e])).trans q),rfl,
      ⟨_,x,y,I.fresh,rfl,rfl,λl hl=>by rw[LL I hl zu];exact hx,λl hl=>by rw[LL I hl vU];exact hy⟩,
      ⟨hz3,(sb.2 TI D.TIz).trans (hk TI _ D.TIz D.TITO D.TIi1 D.TIi2 st.qL),⟨u,u2,(sb.2 TO D.TOz).trans aal⟩,AW qK λo q=>(sb.2 i1 D.i1z).trans q,AW rH λo q=>(sb.2 i2 D.i2z).trans q⟩,λb hb=>(f0 b hb).1⟩
  done:=by
    intro X hP hw hK hc i bu s σ H E I hf st hg;subst hP hw hK;obtain⟨xs,ys,zu,vU,hx⟩:=hg;obtain⟨its,rv,p1⟩:=CS I zu;obtain⟨cE,jK,p2⟩:=CS I vU;have hl:=rv.length;have lC:=jK.length;have xD:s.TypeIs (.ref z) "zip":=⟨_,st.hz,rfl⟩;unfold pyNext;refine Aa1 (Aw0 (Ag2 (name:=Ai9 "__next__") xD AC5 (As0 AC5 xD F.entry_zip_next
      (Ra (I.ok.hd hc) D st p1 p2 (hx.elim (λq=> .inl (by simp;omega)) λq=> .inr (by simp;omega)) λh' e eb he=>?_) (F.args_zip_next_1 _))))
    obtain⟨oe,eo,ce⟩:=he;refine Aa1 (wpAny_isInstance (T:="StopIteration") (b:=true) ⟨oe,eo,ce⟩ isSubtype_stop (Ab2 ?_));exact⟨rfl,I.eV (t':=s.toks) [z,TI,TO,i1,i2] hf λb o hb q=>eb b o (λe=>hb (by simp[e])) (λe=>hb (by simp[e])) (λe=>hb (by simp[e])) (λe=>hb (by simp[e])) q⟩
  self:=λ_ _ _ _ _ st h=>wpAny_pyIter_zip st.hz h
section
variable {k:Nat}{oh:Pos}
noncomputable def iZs(K:aU)(ta:TA):TI:=λσ H R=>ta σ H λvs H1=>∃t1 t2 a b,vs=[.ref a, .ref b]/\(∃xs,gZ t1 K H1 a xs)/\(∃ys,gZ t2 K H1 b ys)/\R (zq t1 t2 K a b) H1
theorem X0{l m:br}(hg:Gl X "zip")(hm:X.mg "zip"=aV)(ha:PA X [l,m] ta)(hK:X.K=K:=by rfl)(hs:aZ [l,m] X.env=[(false,bh l X.env),(false,bh m X.env)]:=by rfl)(lN:aZ [m] X.env=[(false,bh m X.env)]:=by rfl):
  PI X (.Tuple elts k oh) (.Call (.Name "zip" p) [l,m] [] pos) (iZs K ta):=by
 subst hK;intro bu s σ H R I h;refine Call_ (Es I hg hm QE (Al6 (bZ (ha pos bu s σ H _ I h) λus s1 ⟨vs,H1,I1,r1,q1⟩=>?_) (by rw[hs,lN]) (by rw[lN];rfl)));obtain⟨t1,t2,a,b,e,⟨xs,hq⟩,⟨ys,vU⟩,q⟩:=q1;subst e;cases r1 with
 | cons r rr=>
  cases rr with
  | cons r' rr=>
  cases rr;cases r;cases r';obtain⟨its,rv,pl⟩:=CS I1 hq;obtain⟨cE,jK,fT⟩:=CS I1 vU;obtain⟨oa,_,ea,_⟩:=FS pl;obtain⟨ob,_,eb,_⟩:=FS fT;refine Pj pl fT λh' st hk=>?_;refine wpAny_pyIter_zip st.hz ?_;have I2:=I1.kept (t':=s1.toks) hk;refine⟨s1.heap.objs.size+4,_,_,_,H1,rfl,I2,UB t1 t2 a b _ _ _ _ _ (PySem.W.ktu_apart s1.heap.objs.size a b (Ab1 ea) (Ab1 eb)),st,λc hc=>?_,q⟩;have qx:s1.heap.objs.size<=c:=by
   simp only[Aa7,Az0,or_false] at hc;rcases hc with q | q | q | q | q <;> rw[q] <;> first | exact Aa6 _ | exact Nat.le_add_right _ _
  exact I1.kH qx (I1.bO.fresh qx)
end
section
theorem AR:Am4 "list"=aS (.type "list"):=by decide +kernel
theorem A6:Am4 "tuple"=aS (.type "tuple"):=by decide +kernel
noncomputable def QU(K:aU):List V->Hp->VK->Prop:=λxs H Q=>∃(x:V) (p:Addr) (ns:List String) (t:Value) (b:Bool),xs=[x, .ref p]/\H p=aS (.tup (ns.map V.ty))/\fB K H x t/\AH4 K t (ns.map Ap8)=aS b/\Q (.bl b) H
theorem OG:∀{ns:List String} {us:List Value},Vals (ns.map V.ty) us->us=ns.map Ap8
 | [],us,r=>by cases r;rfl
 | n::ns,us,r=>by
  cases r with
  | cons r1 r2=>
   cases r1;rw[OG r2];rfl
theorem T3(hK:X.K=K:=by rfl):BG X (.builtin "isinstance") (QU K):=by
 subst hK;intro bu s σ H xs us Q I r h;obtain⟨x,p,ns,t,b,rfl,hp,ty,e,q⟩:=h;obtain⟨u,c,rfl,rx,rc⟩:=Ol r;cases rc;obtain⟨_,its,rt,ot,e1,e2,nt,e3⟩:=(show bK X.prog X.w H s.heap p (.tup (ns.map V.ty)) from I.bO p _ hp);have ei:=OG rt;subst ei;have pU:s.heap.get? p=aS ⟨.type "tuple",ot.dict, .seq (ns.map Ap8).toArray nt,ot.slots⟩:=by
  rw[e1];obtain⟨c,d,da,sl⟩:=ot;simp only at e2 e3;rw[e2,e3]
 have fin:∀tk,EP X bu σ Q (.bool b) { s with toks:=tk }:=λtk=>⟨.bl b,H,I.tok tk,rfl,q⟩;cases ty with
 | bC=>cases (show u=Aj8 from rx);exact Al7 PySem.W.kitx_none I.dG Ak5 pU e (λz=>nomatch z) fin
 | bl y=>cases (show u=Ar6 y from rx);exact Al7 PySem.W.kitx_bool I.dG Ak5 pU e (λz=>nomatch z) fin
 | int i=>obtain⟨t,q⟩:=(show ∃t,u=Av8 i t from rx);cases q;exact Al7 PySem.W.kitx_int I.dG Ak5 pU e (λz=>nomatch z) fin
 | str y=>obtain⟨t,q⟩:=(show ∃t,u=Ay3 y t from rx);cases q;exact Al7 PySem.W.kitx_str I.dG Ak5 pU e (λz=>nomatch z) fin
 | sR y=>obtain⟨t,q⟩:=(show ∃t,u=AG6 y t from rx);cases q;exact Al7 PySem.W.kitx_float I.dG Ak5 pU e (λz=>nomatch z) fin
 | @lst a xs ea=>
  cases (show u=aY a from rx);obtain⟨_,_,n,_,h1⟩:=(show bK X.prog X.w H s.heap a (.lst xs) from I.bO a _ ea);exact Al7 Aw6 I.dG ⟨_,h1,rfl⟩ pU e (λz=>nomatch z) fin
 | @mG a ob xs ea=>
  cases (show u=aY a from rx);obtain⟨_,_,_,n,_,h1⟩:=(show bK X.prog X.w H s.heap a (.mG ob (.lst xs)) from I.bO a _ ea);exact Al7 Aw6 I.dG ⟨_,h1,rfl⟩ pU e (λz=>nomatch z) fin
 | @tup a xs ea=>
  cases (show u=aY a from rx);obtain⟨_,_,_,p⟩:=(show bK X.prog X.w H s.heap a (.tup xs) from I.bO a _ ea);obtain⟨o,h1,h2,_⟩:=p;exact Al7 PySem.W.kitx_tuple I.dG ⟨o,h1,h2⟩ pU e (λz=>nomatch z) fin
 | @dK a bN ea=>
  cases (show u=aY a from rx);obtain⟨_,_,vs,_,p⟩:=(show bK X.prog X.w H s.heap a (.dK bN) from I.bO a _ ea);obtain⟨o,es,ep,h1,h2,_⟩:=p;exact Al7 Aw7 I.dG ⟨o,h1,h2.1⟩ pU e (λz=>nomatch z) fin
 | @dT a bN ea=>
  cases (show u=aY a from rx);obtain⟨_,_,xs,_,o,es,ep,h1,h2,_⟩:=(show bK X.prog X.w H s.heap a (.dT bN) from I.bO a _ ea);exact Al7 Aw7 I.dG ⟨o,h1,h2.1⟩ pU e (λz=>nomatch z) fin
 | @ins a C dx fs ea cl ha hn uo hm=>
  cases (show u=aY a from rx);obtain⟨mA,O,_⟩:=GS I.bO ea;obtain⟨od,J,_⟩:=O.look;exact Al7 (PySem.W.kitx_own (cl.get _) cl.hd ha hn uo hm) I.dG J pU e (λz=>nomatch z) fin
theorem NA(hc:X.calm=true)(h:vP X es t)(hK:X.K=K:=by rfl)
  (hn:(Av4 es X.env).length=n:=by rfl) (fQ:(Av4 es X.env).findIdx? (·.1)=none:=by rfl):PG X (.Tuple es k pos) (LK K n t):=by
 subst hK;exact RH hc h hn fQ
variable {fr:List (Str×Nat)}
theorem Tn{x y:Str}(h:EW X.env.scope X.N scope [x,y] fr=true)(hc:X.calm=true)(C:Addr)(ex:List Addr)(s:aT)(H:Hp)(hK:X.K=K:=by rfl):
  PG (Bd X scope [x,y] fr C ex s H) (.Tuple [.Name x px, .Name y py] k pt) (LK K 2 (Dp (AN 0) (Dp (AN 1) Na))):=by
 subst hK;exact RH (X:=Bd X scope [x,y] fr C ex s H) hc (Cv (JJ h rfl C ex s H) (Cv (JJ h rfl C ex s H) IA))
theorem Je{x y:Str}(hi:PI X (.Tuple [.Name x px, .Name y py] k pt) iter wi)
  (ht:∀C ex s H,pT (Bd X scope [x,y] (FV X.N scope) C ex s H) ifs tc) (he:∀C ex s H,PE (Bd X scope [x,y] (FV X.N scope) C ex s H) elt te) (hK:X.K=K:=by rfl)
  (hb:EW X.env.scope X.N scope [x,y] (FV X.N scope)=true:=by with_unfolding_all rfl) (hc:X.calm=true:=by rfl)
  (hs:∀x,Am5 iter X.env x=pure x:=by intro _;rfl):PE X (.ListComp elt [⟨.Tuple [.Name x px, .Name y py] k pt,iter,ifs,0⟩] scope pos) (G9 wi [x,y] (FV X.N scope) (LK K 2 (Dp (AN 0) (Dp (AN 1) Na))) tc te):=
 LR hc (.of hb) hi (λC ex s H=>Tn hb hc C ex s H hK) ht he hs
end
section
variable {D:Addr}
theorem Tj{zs:List V}(hlen:xs.length=zs.length)(Pv:Nat->List V->Hp->Prop)(h0:Pv 0 [] (upd H D (.lst [])))
  (hl:∀i ys H,i<=xs.length->Pv i ys H->gZ t1 K H a xs/\gZ t2 K H b zs)
  (hs:∀i x z ys H p,xs[i]?=aS x->zs[i]?=aS z->Pv i ys H->H p=aV->Kp σ0 ((σ0.set 0 (aS x)).set 1 (aS z))/\tc ((σ0.set 0 (aS x)).set 1 (aS z)) (upd H p (.tup [x,z])) λb H3=>
   if b=true then te ((σ0.set 0 (aS x)).set 1 (aS z)) H3 λy H4=>H4 D=aS (.lst ys)/\ys.length<sizeLine/\Pv (i+1) (ys++[y]) (upd H4 D (.lst (ys++[y]))) else Pv (i+1) ys H3)
  (hd:∀ys H,Pv xs.length ys H->Q (.ref D) H):
  DX (zq t1 t2 K a b) σ0 (LK K 2 (Dp (AN 0) (Dp (AN 1) Na))) tc te Q H D:=by
 refine⟨λi m ys H=>m=xs.length - i/\i<=xs.length/\Pv i ys H,⟨_,rfl,Ad4 _,h0⟩,?_⟩;rintro i m ys H ⟨rfl,hi,p⟩;obtain⟨q1,q2⟩:=hl i ys H hi p;by_cases dZ:i<xs.length
 .refine .inr ⟨⟨xs,zs,xs[i],zs[i]'(by omega),q1,q2,by simp[dZ],by simp⟩,Pv (i+1),λku H' p'=>⟨xs.length - (i+1),by omega,rfl,dZ,p'⟩,λx H' y=>?_⟩;obtain⟨pp,v,z,hp,rfl,rfl,hv,hz⟩:=y;exact⟨pp,_,rfl,dj.of upd_same,rfl,_,_,rfl,_,_,rfl,rfl,hs i v z ys H pp (hv xs q1) (hz zs q2) p hp⟩
 .have e:i=xs.length:=by omega
  subst e;exact .inl ⟨⟨xs,zs,q1,q2, .inl (Aa6 _)⟩,hd ys H p⟩
theorem Mv{tb:TS}{D:Ends}(Pv:Nat->St->Hp->Prop)(h0:Pv 0 σ H)(hl:∀i σ H,i<=xs.length->Pv i σ H->bx K H a xs)
  (hs:∀i x σ H p,xs[i]?=aS x->Pv i σ H->H p=aV->tb { D with nx:=Pv (i+1),ct:=Pv (i+1),bk:=D.nx } ((σ.set i1 (aS (.int i))).set i2 (aS x)) (upd H p (.tup [.int i,x]))) (hd:∀σ H,Pv xs.length σ H->D.nx σ H):
  ∃W:Nat->Nat->St->Hp->Prop,(∃m,W 0 m σ H)/\∀i m σ H,W i m σ H->
   ((uH K a).stop i H/\D.nx σ H)\/((uH K a).go i H/\∃N:St->Hp->Prop,(∀σ' H',N σ' H'->∃m',m'<m/\W (i+1) m' σ' H')/\∀x H',(uH K a).jM i H x H'->(LK K 2 (Dp (AN i1) (Dp (AN i2) Na))) x σ H' λσ2 H2=>tb { D with nx:=N,ct:=N,bk:=D.nx } σ2 H2):=by
 refine⟨λi m σ H=>m=xs.length - i/\i<=xs.length/\Pv i σ H,⟨_,rfl,Ad4 _,h0⟩,?_⟩;rintro i m σ H ⟨rfl,hi,p⟩;have q:=hl i σ H hi p;by_cases dZ:i<xs.length
 .refine .inr ⟨⟨xs,xs[i],q,by simp[dZ]⟩,Pv (i+1),λσ' H' p'=>⟨xs.length - (i+1),by omega,rfl,dZ,p'⟩,λx H' y=>?_⟩;obtain⟨pp,v,hp,rfl,rfl,hv⟩:=y;exact⟨pp,_,rfl,dj.of upd_same,rfl,_,_,rfl,_,_,rfl,rfl,hs i v σ H pp (hv xs q) p hp⟩
 .have e:i=xs.length:=by omega
  subst e;exact .inl ⟨⟨xs,q,Aa6 _⟩,hd σ H p⟩
end
inductive Dt where
 | bC | bl (b:Bool) | int (i:Int) | str (z:Str) | lst (xs:List Dt) | tup (xs:List Dt)
inductive Rp(H:Hp)(F:Addr->Prop):Nat->V->Dt->Prop where
 | bC {n:Nat}:Rp H F n .bC .bC
 | bl {n:Nat} (b:Bool):Rp H F n (.bl b) (.bl b)
 | int {n:Nat} (i:Int):Rp H F n (.int i) (.int i)
 | str {n:Nat} (z:Str):Rp H F n (.str z) (.str z)
 | lst {n:Nat} {a:Addr} {vs:List V} {ds:List Dt} (h:H a=aS (.lst vs)) (f:F a) (b:vs.length<=100000) (l:vs.length=ds.length) (e:∀(i:Nat) (v:V) (d:Dt),vs[i]?=aS v->ds[i]?=aS d->Rp H F n v d):Rp H F (n+1) (.ref a) (.lst ds)
 | tup {n:Nat} {a:Addr} {vs:List V} {ds:List Dt} (h:H a=aS (.tup vs)) (b:vs.length<=100000) (l:vs.length=ds.length) (e:∀(i:Nat) (v:V) (d:Dt),vs[i]?=aS v->ds[i]?=aS d->Rp H F n v d):Rp H F (n+1) (.ref a) (.tup ds)
theorem Rp.mono(r:Rp H F n v d)(k:∀a o,H a=aS o->(∀xs,o= .lst xs->F a)->H' a=aS o)(f:∀a,F a->F' a):Rp H' F' n v d:=by
 induction r with
 | bC=>exact .bC
 | bl b=>exact .bl b
 | int i=>exact .int i
 | str z=>exact .str z
 | lst h p b l e ih=>exact .lst (k _ _ h λ_ _=>p) (f _ p) b l λi v d h1 h2=>ih i v d h1 h2
 | tup h b l e ih=>exact .tup (k _ _ h λxs q=>by cases q) b l λi v d h1 h2=>ih i v d h1 h2
theorem Rp.same(r:Rp H F n v d)(s:Same H H'):Rp H' F n v d:=r.mono (λa o h _=>s a o h) λ_ h=>h
theorem Rp.imp(r:Rp H F n v d)(f:∀a,F a->F' a):Rp H F' n v d:=r.mono (λa o h _=>h) f
theorem Rp.up(r:Rp H F n v d)(h:n<=m):Rp H F m v d:=by
 induction r generalizing m with
 | bC=>exact .bC
 | bl b=>exact .bl b
 | int i=>exact .int i
 | str z=>exact .str z
 | lst h p b l e ih=>
  cases m with
  | zero=>exact bV h (by omega)
  | succ m=>exact .lst ‹_› p b l λi v d h1 h2=>ih i v d h1 h2 (by omega)
 | tup h b l e ih=>
  cases m with
  | zero=>exact bV h (by omega)
  | succ m=>exact .tup ‹_› b l λi v d h1 h2=>ih i v d h1 h2 (by omega)
noncomputable abbrev FT:Addr->Prop:=λ_=>True
noncomputable abbrev FN(H:Hp):Addr->Prop:=λa=>H a=aV
theorem Rp.any(r:Rp H F n v d):Rp H FT n v d:=r.imp λ_ _=>trivial
theorem Rp.new(r:Rp H F n v d)(h:H p=aV):Rp (L2.upd H p o) F n v d:=r.same λb u e=>by rw[An (Ba e h)];exact e
noncomputable def UH(ns:List Int):Dt:= .lst (ns.map .int)
theorem OY(r:Rp H F n v (UH ns)):∃a,v= .ref a/\H a=aS (.lst (ns.map V.int))/\F a:=by
 unfold UH at r;cases r with
 | @lst n a vs _ h f b l e=>
  refine⟨a,rfl,?_,f⟩;rw[h];congr 2;refine Af8 (by simpa using l) λi h1 h2=>?_;have rH:i<ns.length:=by simpa using h2
  have:=e i vs[i] (.int ns[i]) (by simp[h1]) (by simp[rH]);cases hv:vs[i] <;> rw[hv] at this <;> cases this;simp
section
variable {t u:TS}{D:Ends}{ta tb tk:TE}{tt tu:TT}{QT:Bool->Hp->Prop}{QA:List V->Hp->Prop}{i:Nat}{x:V}{r:R2}{tr:TA}
theorem Wh(h:t { D with nx:=u D } σ H):Vq t u D σ H:=h
theorem OT(h:D.nx σ H):U7 D σ H:=h
theorem VO(h:te σ H λx H1=>g x σ H1 D.nx):NR te g D σ H:=h
theorem Ox(h:QS (σ.set i (aS v)) H):AN i v σ H QS:=h
theorem Wu(e:σ[i]?=aS (aS v))(h:Q v H):N0 i σ H Q:=⟨v,e,h⟩
theorem ZI(h:Q v H):tC v σ H Q:=h
theorem XS(h:ta σ H λx H1=>tb σ H1 λy H2=>r x y H2 Q):uf r ta tb σ H Q:=h
theorem X1(h:ta σ H λx H1=>ru x H1 Q):tUn ru ta σ H Q:=h
theorem AE(c:C a b)(h:Q (gg a b) H):rI C gg (.int a) (.int b) H Q:=⟨a,b,rfl,rfl,c,h⟩
theorem VJ(h:Q (gg a b) H):qj gg (.int a) (.int b) H Q:=⟨a,b,rfl,rfl,h⟩
theorem Xk(h:Q (gg a) H):rU gg (.int a) H Q:=⟨a,rfl,h⟩
theorem VZ(h:Q (.bl (decide (a=b))) H):zb (.int a) (.int b) H Q:=⟨rfl,by rw[show decide (V.int a=V.int b)=decide (a=b) by rw[Ad5];simp];exact h⟩
theorem VF(h:Q (.bl (decide (a=b))) H):zb (.str a) (.str b) H Q:=⟨rfl,by rw[show decide (V.str a=V.str b)=decide (a=b) by rw[Ad5];simp];exact h⟩
theorem V1(h:Q (.bl (!decide (a=b))) H):rNe (.str a) (.str b) H Q:=⟨rfl,by rw[show decide (V.str a=V.str b)=decide (a=b) by rw[Ad5];simp];exact h⟩
theorem Vv(h:Q (.bl (decide (a=b))) H):zb (.bl a) (.bl b) H Q:=⟨rfl,by rw[show decide (V.bl a=V.bl b)=decide (a=b) by rw[Ad5];simp];exact h⟩
theorem WH(h:Q (.bl (!decide (a=b))) H):rNe (.bl a) (.bl b) H Q:=⟨rfl,by rw[show decide (V.bl a=V.bl b)=decide (a=b) by rw[Ad5];simp];exact h⟩
theorem VR(h:tt σ H λc H1=>QT (!c) H1):Xw tt σ H QT:=h
theorem Uz(h:te σ H λx H'=>∃k,x= .bl k/\QT k H'):Rb te σ H QT:=h
theorem WN(h:te σ H λx H'=>∃k,x= .bl k/\QT k H'):tB te σ H QT:=h
theorem W6{R:Bool->Prop}(h:R b):∃k,V.bl b= .bl k/\R k:=⟨b,rfl,h⟩
theorem WQ(h:tt σ H λc H1=>if c=true then QT true H1 else tu σ H1 QT):tOr tt tu σ H QT:=h
theorem VL(h:tt σ H λc H1=>if c=true then tu σ H1 QT else QT false H1):XO tt tu σ H QT:=h
theorem Uo(h:ta σ H λx H1=>∃c,x= .bl c/\if c=true then tb σ H1 Q else Q (.bl false) H1):U6 ta tb σ H Q:=h
theorem SV(h:ta σ H λx H1=>∃c,x= .bl c/\Q (.bl (!c)) H1):U5 ta σ H Q:=h
theorem Wa(h:tt σ H λb H1=>if b=true then t D σ H1 else u D σ H1):Mo tt t u D σ H:=h
theorem Xi(h:tt σ H λc H1=>if c=true then ta σ H1 Q else tb σ H1 Q):tIf tt ta tb σ H Q:=h
theorem Wv(h:te σ H D.rt):XC te D σ H:=h
theorem SX(h:te σ H λ_ H1=>D.nx σ H1):U3 te D σ H:=h
theorem VX(h:QA [] H):MC σ H QA:=h
theorem Tx(h:te σ H λx H1=>tr σ H1 λxs H2=>QA (x::xs) H2):Ia te tr σ H QA:=h
theorem WJ(h:tr σ H λxs H1=>xs.length<=sizeLine/\∀p,H1 p=aV->Q (.ref p) (upd H1 p (.lst xs))):Xx tr σ H Q:=h
theorem Vt(h:tr σ H λxs H1=>xs.length<=sizeLine/\∀p,H1 p=aV->Q (.ref p) (upd H1 p (.tup xs))):W1 tr σ H Q:=h
theorem WM(h:tr σ H λvs H1=>rr vs H1 Q):zc rr tr σ H Q:=h
theorem T2{E:XK}(h:tr σ H λvs H1=>sp vs H1 Q E):MP sp [] E tr σ H Q:=by
 unfold MP;simpa using h
theorem Xr(h:te σ H λx H1=>tl σ H1 λl H2=>th σ H2 λu H3=>rs x l u H3 Q):tSl rs te tl th σ H Q:=h
theorem UC(h:te σ H λx H1=>∃i,x= .int i/\QO (aS i) H1):U0 te σ H QO:=h
theorem P6(h:QO aV H):O5 σ H QO:=h
theorem Vr{R:Int->Prop}(h:R a):∃k,V.int a= .int k/\R k:=⟨a,rfl,h⟩
theorem Sl{lo hi:Option Int}(c:z.length<=sizeLine)(h:Q (.str (Az1 z lo hi)) H):XI (.str z) lo hi H Q:=⟨z,rfl,c,h⟩
theorem Bo{lo hi:Option Int}(c:bx K H p xs)(h:∀q,H q=aV->Q (.ref q) (upd H q (.lst (FD xs lo hi)))):Vd K (.ref p) lo hi H Q:=⟨p,xs,rfl,c,h⟩
theorem EB(c:z.length<=sizeLine)(h:Q (.int z.length) H):PQ K [.str z] H Q:=⟨_,_,rfl,⟨c,rfl⟩,h⟩
theorem Ax(c:bx K H p xs)(h:Q (.int xs.length) H):PQ K [.ref p] H Q:=⟨_,_,rfl, .inl ⟨xs,c,rfl⟩,h⟩
theorem Mb(c:dj K H p xs)(h:Q (.int xs.length) H):PQ K [.ref p] H Q:=⟨_,_,rfl, .inr ⟨xs,c,rfl⟩,h⟩
theorem R0(c:bx K H p (ns.map V.int))(h:Q (.int ns.sum) H):WZ K [.ref p] H Q:=⟨p,ns,rfl,c,h⟩
theorem JC{bs:List Bool}(c:bx K H p (bs.map V.bl))(h:Q (.bl (bs.all id)) H):Xf K [.ref p] H Q:=⟨p,bs,rfl,c,h⟩
theorem Bi(c:fB K H x ty)(e:Ai6 K ty (.type n)=aS b)(h:Q (.bl b) H):UG K [x, .ty n] H Q:=⟨x,n,ty,b,rfl,c,e,h⟩
theorem AU(c:bx K H p xs)(e:mK xs k=aS v)(h:Q v H):VS K (.ref p) (.int k) H Q:=⟨p,xs,k,v,rfl,rfl,c,e,h⟩
theorem GA(c:dj K H p xs)(e:mK xs k=aS v)(h:Q v H):V8 K (.ref p) (.int k) H Q:=⟨p,xs,k,v,rfl,rfl,c,e,h⟩
theorem JD(l:z.length<=sizeLine)(e:mK z.cps.toList k=aS c)(h:Q (.str ⟨#[c]⟩) H):Xa (.str z) (.int k) H Q:=⟨z,k,c,rfl,rfl,l,e,h⟩
theorem Vm(c:xs.length<=1000)(h:B):xs.length<=sizeLine/\B:=⟨Ab4 c (by decide),h⟩
end
theorem Az{p A:Prop}[Decidable p](h1:p->A)(h2:¬ p->B):if decide p=true then A else B:=by
 by_cases h:p
 .rw[bS (iT h)];exact h1 h
 .rw[bG (λq=>h (of_decide_eq_true q))];exact h2 h
theorem FX{p A:Prop}[Decidable p](h1:¬ p->A)(h2:p->B):if (!decide p)=true then A else B:=by
 by_cases h:p
 .rw[iT h];exact Qo (h2 h)
 .rw[lI h];exact Mq (h1 h)
theorem Nn{A:Prop}(h1:b=true->A)(h2:b=false->B):if b=true then A else B:=by
 cases b with
 | true=>exact Mq (h1 rfl)
 | false=>exact Qo (h2 rfl)
noncomputable def uK:Dt->String | .bC=>"NoneType" | .bl _=>"bool" | .int _=>"int" | .str _=>"str" | .lst _=>"list" | .tup _=>"tuple"
noncomputable def Fb:Dt->Bool | .lst _=>true | _=>false
noncomputable def Cy:Dt->Bool | .tup _=>true | _=>false
noncomputable def ax:Dt->Bool | .bl _=>true | _=>false
theorem Rp.ty(r:Rp H F n v d):fB K H v (.type (uK d)):=by
 cases r with
 | bC=>exact .bC
 | bl b=>exact .bl b
 | int i=>exact .int i
 | str z=>exact .str z
 | lst h _ _ _ _=>exact .lst h
 | tup h _ _ _=>exact .tup h
theorem Qd:Ei "NoneType" "list"=aS false/\Ei "bool" "list"=aS false/\Ei "int" "list"=aS false/\Ei "str" "list"=aS false/\Ei "list" "list"=aS true/\Ei "tuple" "list"=aS false:=by decide +kernel
theorem L6(d:Dt):Ai6 K (.type (uK d)) (.type "list")=aS (Fb d):=by
 obtain⟨h1,h2,h3,h4,h5,h6⟩:=Qd;cases d with
 | bC=>exact kb h1
 | bl _=>exact kb h2
 | int _=>exact kb h3
 | str _=>exact kb h4
 | lst _=>exact kb h5
 | tup _=>exact kb h6
theorem Nz:Ei "NoneType" "tuple"=aS false/\Ei "bool" "tuple"=aS false/\Ei "int" "tuple"=aS false/\Ei "str" "tuple"=aS false/\Ei "list" "tuple"=aS false/\Ei "tuple" "tuple"=aS true:=by decide +kernel
theorem JA(d:Dt):Ai6 K (.type (uK d)) (.type "tuple")=aS (Cy d):=by
 obtain⟨h1,h2,h3,h4,h5,h6⟩:=Nz;cases d with
 | bC=>exact kb h1
 | bl _=>exact kb h2
 | int _=>exact kb h3
 | str _=>exact kb h4
 | lst _=>exact kb h5
 | tup _=>exact kb h6
theorem PK:Ei "NoneType" "bool"=aS false/\Ei "bool" "bool"=aS true/\Ei "int" "bool"=aS false/\Ei "str" "bool"=aS false/\Ei "list" "bool"=aS false/\Ei "tuple" "bool"=aS false:=by decide +kernel
theorem O4(d:Dt):Ai6 K (.type (uK d)) (.type "bool")=aS (ax d):=by
 obtain⟨h1,h2,h3,h4,h5,h6⟩:=PK;cases d with
 | bC=>exact kb h1
 | bl _=>exact kb h2
 | int _=>exact kb h3
 | str _=>exact kb h4
 | lst _=>exact kb h5
 | tup _=>exact kb h6
theorem WV(d:Dt):AH4 K (.type (uK d)) (["list","tuple"].map Ap8)=aS (Fb d||Cy d):=by
 show (match Ai6 K (.type (uK d)) (.type "list") with
  | some true=>aS true
  | some false=>(match Ai6 K (.type (uK d)) (.type "tuple") with
   | some true=>aS true
   | some false=>aS false
   | none=>aV)
  | none=>aV)=_
 rw[L6,JA];cases d <;> rfl
theorem Sj{ns:List String}(hp:H p=aS (.tup (ns.map V.ty)))(c:fB K H x t)(e:AH4 K t (ns.map Ap8)=aS b)(h:Q (.bl b) H):QU K [x, .ref p] H Q:=⟨x,p,ns,t,b,rfl,hp,c,e,h⟩
noncomputable def Ht:Dt->List Dt | .lst ds=>ds | .tup ds=>ds | _=>[]
theorem Rp.seq(r:Rp H F n v d)(h:(Fb d||Cy d)=true):
  ∃m a vs,n=m+1/\v= .ref a/\gZ (Cy d) K H a vs/\vs.length=(Ht d).length/\vs.length<=100000/\∀(i:Nat) (x:V) (e:Dt),vs[i]?=aS x->(Ht d)[i]?=aS e->Rp H F m x e:=by
 cases r with
 | @lst m a vs ds q f b l e=>exact⟨m,a,vs,rfl,rfl,(show bx K H a vs from bx.of q),l,b,e⟩
 | @tup m a vs ds q b l e=>exact⟨m,a,vs,rfl,rfl,(show dj K H a vs from dj.of q),l,b,e⟩
 | bC=>cases h
 | bl _=>cases h
 | int _=>cases h
 | str _=>cases h
theorem Pa(c:gZ tp K H p xs)(h:Q (.int xs.length) H):PQ K [.ref p] H Q:=by
 cases tp with
 | false=>exact Ax c h
 | true=>exact Mb c h
theorem gZ.same(c:gZ tp K H p xs)(s:Same H H'):gZ tp K H' p xs:=by
 cases tp with
 | false=>exact(show bx K H' p xs from s.seq c)
 | true=>
  rcases (show dj K H p xs from c) with (q | ⟨o,q⟩) | q
  .exact(show dj K H' p xs from .inl (.inl (s _ _ q)))
  .exact(show dj K H' p xs from .inl (.inr ⟨o,s _ _ q⟩))
  .exact(show dj K H' p xs from .inr q)
theorem Al(h:H p=aV):Same H (upd H p o):=λb u e=>by rw[An (Ba e h)];exact e
theorem AG(s:Same H H')(h:H D=aV):Same H (upd H' D o):=λb u e=>by rw[An (Ba e h)];exact s b u e
theorem PD(r:Rp H F n v d)(h:(Fb d||Cy d)=false):Wm v v=true:=by
 cases r with
 | bC=>rfl
 | bl _=>rfl
 | int _=>rfl
 | str _=>rfl
 | lst _ _ _ _ _=>cases h
 | tup _ _ _ _=>cases h
theorem TJ(r:Rp H F n v d)(r2:Rp H F n u d)(h:(Fb d||Cy d)=false):v=u:=by
 cases r with
 | bC=>cases r2;rfl
 | bl _=>cases r2;rfl
 | int _=>cases r2;rfl
 | str _=>cases r2;rfl
 | lst _ _ _ _ _=>cases h
 | tup _ _ _ _=>cases h
structure fD(J:It)(g:TG)(σ0:St)(H:Hp)(n:Nat)(st:Nat->St):Prop where
 go:∀i H',i<n->Same H H'->J.go i H'
 stop:∀H',Same H H'->J.stop n H'
 jM:∀i H' x gx (R:St->Hp->Prop),i<n->Same H H'->J.jM i H' x gx->(∀H3,Same H' H3->R (st i) H3)->g x σ0 gx R
 kp:∀i,i<n->Kp σ0 (st i)
section
variable {J:It}{n:Nat}{st:Nat->St}{D:Addr}
theorem Rp.off(r:Rp H F m v d)(hD:H D=aS (.lst xs))(hF:¬ F D):Rp (L2.upd H D o) F m v d:=by
 refine r.mono (λa u e q=>?_) λ_ h=>h;have n:a≠D:=λz=>by
  subst z;rw[hD] at e;cases e;exact hF (q _ rfl)
 rw[An n];exact e
theorem HH(S:fD J g σ0 H n st)(hD:H D=aV)(hn:n<=100000)
  (ht:∀i H' (R:Bool->Hp->Prop),i<n->Same H H'->(∀H3,Same H' H3->R (p i) H3)->tc (st i) H' R)
  (he:∀i H' (R:VK),i<n->p i=true->Same H H'->(∀H3 y,Same H' H3->Rp H3 (FN H') m y (G i)->R y H3)->te (st i) H' R)
  (hd:∀H' ys,Same H H'->H' D=aS (.lst ys)->Rp H' (FN H) (m+1) (.ref D) (.lst (((Ab7 n).filter p).map G))->Q (.ref D) H'):
  DX J σ0 g tc te Q H D:=by
 refine⟨λi k ys H'=>k=n - i/\i<=n/\Same H H'/\H' D=aS (.lst ys)/\ys.length=(((Ab7 i).filter p).map G).length/\∀(j:Nat) (y:V) (d:Dt),ys[j]?=aS y->(((Ab7 i).filter p).map G)[j]?=aS d->Rp H' (λa=>H a=aV/\a≠D) m y d,
  ⟨_,rfl,Ad4 _,AG (Same.refl _) hD,upd_same,rfl,λj y d q=>by simp at q⟩,?_⟩
 rintro i k ys H1 ⟨rfl,hi,s1,hl,len,el⟩;have fF:∀i,(((Ab7 i).filter p).map G).length<=i:=λi=>by
  rw[Aa0];exact Ab4 (AB3 _ _) (by simp)
 by_cases dZ:i<n
 .refine .inr ⟨S.go i H1 dZ s1,λku H'=>Same H H'/\H' D=aS (.lst ku)/\ku.length=(((Ab7 (i+1)).filter p).map G).length/\∀(j:Nat) (y:V) (d:Dt),ku[j]?=aS y->(((Ab7 (i+1)).filter p).map G)[j]?=aS d->Rp H' (λa=>H a=aV/\a≠D) m y d,
   λku H' q=>⟨n - (i+1),by omega,rfl,dZ,q⟩,λx H2 y=>?_⟩
  refine S.jM i H1 x H2 _ dZ s1 y λH3 s3=>⟨S.kp i dZ,?_⟩;refine ht i H3 _ dZ (s1.trans s3) λH4 s4=>?_;have tF:H4 D=aS (.lst ys):=s4 _ _ (s3 _ _ hl);have s14:Same H H4:=s1.trans (s3.trans s4);cases hp:p i with
  | false=>
   refine Qo ⟨s14,tF,?_,?_⟩
   .rw[Av0,AE1,At9,hp];simpa using len
   .intro j y d h1 h2;have e:((Ab7 (i+1)).filter p).map G=((Ab7 i).filter p).map G:=by
     rw[Av0,AE1,At9,hp];simp
    rw[e] at h2;exact(el j y d h1 h2).same (s3.trans s4)
  | true=>
   refine Mq ?_;refine he i H4 _ dZ hp s14 λH5 y s5 ry=>?_;have rX:H5 D=aS (.lst ys):=s5 _ _ tF;have e:((Ab7 (i+1)).filter p).map G=((Ab7 i).filter p).map G++[G i]:=by
    rw[Av0,AE1,At9,hp];simp
   refine⟨rX,?_,?_,upd_same,?_,?_⟩
   .have:=fF i;exact AE8 (by omega:ys.length<=100000) (by decide)
   .exact AG (s14.trans s5) hD
   .rw[e,Aa5,Aa5,len];rfl
   .intro j z d h1 h2;rw[e] at h2;have nF:¬ (H D=aV/\D≠D):=λq=>q.2 rfl;by_cases hj:j<ys.length
    .rw[Ad9 hj] at h1;rw[Ad9 (by omega)] at h2;exact((el j z d h1 h2).same (s3.trans (s4.trans s5))).off rX nF
    .have ej:j=ys.length:=by
      have:=(Ab8.mp h1).1;rw[Aa5] at this;have:([y]:List V).length=1:=rfl;omega
     subst ej;rw[Ae3 (Aa6 _),AG2] at h1;rw[len,Ae3 (Aa6 _),AG2] at h2;cases h1;cases h2;refine(ry.imp (F':=λa=>H a=aV/\a≠D) λa ha=>⟨s14.free ha,λq=>?_⟩).off rX nF;subst q;rw[show H4 a=aV from ha] at tF;cases tF
 .have e:i=n:=by omega
  subst e;refine .inl ⟨S.stop H1 s1,hd H1 ys s1 hl (.lst hl hD ?_ len λj y d h1 h2=>(el j y d h1 h2).imp λa q=>q.1)⟩;have:=fF i;omega
theorem A3(S:fD J g σ0 H n st)(hD:H D=aV)(hn:n<=100000)
  (he:∀i H' (R:VK),i<n->Same H H'->(∀H3 y,Same H' H3->Rp H3 (FN H') m y (G i)->R y H3)->te (st i) H' R)
  (hd:∀H' ys,Same H H'->H' D=aS (.lst ys)->Rp H' (FN H) (m+1) (.ref D) (.lst ((Ab7 n).map G))->Q (.ref D) H'):
  DX J σ0 g MQ te Q H D:=by
 refine HH (p:=λ_=>true) (m:=m) (G:=G) S hD hn (λi H' R _ _ k=>k H' (Same.refl _)) (λi H' R hi _ s k=>he i H' R hi s k) λH' ys s hl r=>hd H' ys s hl ?_;have e:(Ab7 n).filter (λ_=>true)=Ab7 n:=by simp
 rw[e] at r;exact r
variable {a b:Addr}{zs:List V}
theorem AH(h:bx K H a xs)(h0:σ0[0]?=aS aV):fD (ud K a) (AN 0) σ0 H xs.length (λi=>σ0.set 0 (aS (xs.getD i .bC))) where
 go:=λi H' hi s=>⟨xs,xs[i],s.seq h,by simp[hi]⟩
 stop:=λH' s=>⟨xs,s.seq h,Aa6 _⟩
 jM:=λi H' x gx R hi s y k=>by
  obtain⟨e,hv⟩:=y;subst e;have e:x=xs.getD i .bC:=by
   have:=hv xs (s.seq h);rw[Aa2,this];rfl
  subst e;exact k _ (Same.refl _)
 kp:=λi hi=>(Kp.refl _).set h0
theorem OW(h:dj K H a xs)(h0:σ0[0]?=aS aV):fD (wZ K a) (AN 0) σ0 H xs.length (λi=>σ0.set 0 (aS (xs.getD i .bC))) where
 go:=λi H' hi s=>⟨xs,xs[i],(gZ.same (tp:=true) h s),by simp[hi]⟩
 stop:=λH' s=>⟨xs,(gZ.same (tp:=true) h s),Aa6 _⟩
 jM:=λi H' x gx R hi s y k=>by
  obtain⟨e,hv⟩:=y;subst e;have e:x=xs.getD i .bC:=by
   have:=hv xs (gZ.same (tp:=true) h s);rw[Aa2,this];rfl
  subst e;exact k _ (Same.refl _)
 kp:=λi hi=>(Kp.refl _).set h0
theorem KM{lo:Int}{n:Nat}(h0:σ0[0]?=aS aV):fD (rE lo n) (AN 0) σ0 H n (λi=>σ0.set 0 (aS (.int (lo+i)))) where
 go:=λi H' hi s=>hi
 stop:=λH' s=>Aa6 _
 jM:=λi H' x gx R hi s y k=>by
  obtain⟨e,hv⟩:=y;subst e hv;exact k _ (Same.refl _)
 kp:=λi hi=>(Kp.refl _).set h0
theorem Ur(h0:σ0[0]?=aS aV):fD (vS z) (AN 0) σ0 H z.cps.size (λi=>σ0.set 0 (aS (.str ⟨#[z.cps.toList.getD i 0]⟩))) where
 go:=λi H' hi s=>hi
 stop:=λH' s=>Aa6 _
 jM:=λi H' x gx R hi s y k=>by
  obtain⟨e,c,hc,hv⟩:=y;subst e hv;have e:c=z.cps.toList.getD i 0:=by
   rw[Aa2,show z.cps.toList[i]?=aS c by simpa using hc];rfl
  rw[e];exact k _ (Same.refl _)
 kp:=λi hi=>(Kp.refl _).set h0
theorem Qw(h:bx K H a xs)(h0:σ0[0]?=aS aV)(h1:σ0[1]?=aS aV):fD (uH K a) (LK K 2 (Dp (AN 0) (Dp (AN 1) Na))) σ0 H xs.length (λi=>(σ0.set 0 (aS (.int i))).set 1 (aS (xs.getD i .bC))) where
 go:=λi H' hi s=>⟨xs,xs[i],s.seq h,by simp[hi]⟩
 stop:=λH' s=>⟨xs,s.seq h,Aa6 _⟩
 jM:=λi H' x gx R hi s y k=>by
  obtain⟨p,v,hp,rfl,rfl,hv⟩:=y;have e:v=xs.getD i .bC:=by
   have:=hv xs (s.seq h);rw[Aa2,this];rfl
  subst e;exact⟨p,_,rfl,dj.of upd_same,rfl,_,_,rfl,_,_,rfl,rfl,k _ (Al hp)⟩
 kp:=λi hi=>((Kp.refl _).set h0).set h1
end
theorem FB{α β:Type}(f:α->β)(xs:List α)(d:α):(Ab7 xs.length).map (λi=>f (xs.getD i d))=xs.map f:=by
 refine Af8 (by simp) λi h1 h2=>?_;have hi:i<xs.length:=by simpa using h2
 simp[Aa2,hi]
theorem Qq(a b c:Int)(hc:c≠0):0<=Ai7 a b c/\Ai7 a b c<=(b - a).natAbs:=by
 unfold Ai7;split
 .rename_i h
  split
  .rename_i h2
   have h3:0<=(b - a - 1) / c:=Int.ediv_nonneg (by omega) (by omega);have h4:(b - a - 1) / c<=b - a - 1:=Int.ediv_le_self _ (by omega);omega
  .omega
 .rename_i h
  split
  .rename_i h2
   have h3:0<=(a - b - 1) / (-c):=Int.ediv_nonneg (by omega) (by omega);have h4:(a - b - 1) / (-c)<=a - b - 1:=Int.ediv_le_self _ (by omega);omega
  .omega
theorem Up(ha: -(2 ^ 40)<=a/\a<2 ^ 40)(hb: -(2 ^ 40)<=b/\b<2 ^ 40)(hc: -(2 ^ 20)<=c/\c<2 ^ 20)(h0:c≠0):AH8 a b c=true:=by
 have h:=Qq a b c h0;unfold AH8;simp only[Builtin.Range.rangeFitsLong,Ab5,AH7,decide_eq_true_eq,beq_iff_eq];generalize Ai7 a b c=n at h;have hn:(b - a).natAbs<2 ^ 42:=by omega
 refine⟨⟨⟨⟨by omega,by omega⟩,by omega⟩,by omega⟩, .inr ?_⟩;split <;> rw[Ab5,decide_eq_true_eq,decide_eq_true_eq] <;> omega
noncomputable def zw(lo c:Int)(n:Nat):It:=⟨λi _=>i<n,λi H x H'=>H'=H/\x= .int (lo+i*c),λi _=>n<=i⟩
theorem Nv(it:Addr)(lo c:Int)(n:Nat):Turn P w K tg (zw lo c n) [it] it (λi h=>IsRangeIter h it (lo+(i:Nat)*c) ((n:Int) - (i:Nat)) c) where
  mem:=by simp
  obj:=λi h st b hb=>by
    have e:b=it:=by simpa using hb
    subst e;exact⟨_,st,λv z=>by cases (show Ax5 _=Ay9 v from z)⟩
  keep:=λi h h' st k=>k it (by simp) _ st
  item:=by
    intro X hP hw hK hc i bu s σ H E I hf st hg;subst hP hw hK;obtain⟨f0,f1,f2,f3,f4,f5⟩:=hf it (by simp);have W:=Walks.range (prog:=X.prog) (w:=X.w) (I.ok.hd hc) it lo c n;refine W.item i s _ _ hg st λv h' tk hv lM kk=>?_;obtain⟨t,rfl⟩:=hv;have I1:Inv X bu σ H { s with heap:=h',toks:=tk }:=I.turned (λb o hb e=>kk b o (by simpa using hb) e) f0 f1 f3 f4 f5;exact⟨_,rfl,M6 (s:={ s with heap:=h',toks:=tk }) (n:="range_iterator") lM rfl rfl (by decide) ⟨.int (lo+i*c),H,I1,⟨t,rfl⟩,⟨rfl,rfl⟩,lM,λb hb=>(hf b hb).1⟩⟩
  done:=by
    intro X hP hw hK hc i bu s σ H E I hf st hg;subst hP hw hK;obtain⟨f0,f1,f2,f3,f4,f5⟩:=hf it (by simp);exact wpAny_pyNext_range_end (I.ok.hd hc) st (by have:n<=i:=hg;omega) λh' eb=>⟨rfl,I.turned (t':=s.toks) (λb o hb e=>eb b o hb e) f0 f1 f3 f4 f5⟩
  self:=λ_ _ _ _ _ st h=>wpAny_pyIter_rangeiter st h
section
noncomputable def UN(ta:TA):TI:=λσ H R=>ta σ H λvs H1=>∃i j c:Int,vs=[.int i, .int j, .int c]/\(-(2 ^ 40)<=i/\i<2 ^ 40)/\(-(2 ^ 40)<=j/\j<2 ^ 40)/\(-(2 ^ 20)<=c/\c<2 ^ 20)/\c≠0/\R (zw i c (Ai7 i j c).toNat) H1
theorem PX(hg:Gl X "range")(hm:X.mg "range"=aV)(ha:PA X [a,b,c] ta)(hs:aZ [a,b,c] X.env=[(false,bh a X.env),(false,bh b X.env),(false,bh c X.env)]:=by rfl)
  (lN:aZ [b,c] X.env=[(false,bh b X.env),(false,bh c X.env)]:=by rfl):PI X tg (.Call (.Name "range" p) [a,b,c] [] pos) (UN ta):=by
 intro bu s σ H R I h;refine Call_ (Es I hg hm boot_range (Al6 (bZ (ha pos bu s σ H _ I h) λus s1 ⟨vs,H1,I1,r1,q1⟩=>?_) (by rw[hs,lN]) (by rw[lN];rfl)));obtain⟨i,j,k,e,h1,h2,h3,h0,q⟩:=q1;subst e;cases r1 with
 | cons r rr=>
  cases rr with
  | cons r' rr=>
   cases rr with
   | cons r'' rr=>
    cases rr;obtain⟨t,rfl⟩:=r;obtain⟨t',rfl⟩:=r';obtain⟨zx,rfl⟩:=r'';refine call_range_3 h0 ?_ (.inl (PyProof.noPylong_small (by omega)));refine wpAny_pyIter_range (IsRange.new ..) (Up h1 h2 h3 h0) ?_;have I2:Inv X bu σ H1 { s1 with heap:=s1.heap.push { cls:= .type "range",data:= .fields #[.int i t, .int j t', .int k zx] },toks:=s1.toks }:=I1.kept λb o e=>Aa4 _ e;refine⟨(s1.heap.push { cls:= .type "range",data:= .fields #[.int i t, .int j t', .int k zx] }).objs.size,[(s1.heap.push { cls:= .type "range",data:= .fields #[.int i t, .int j t', .int k zx] }).objs.size],_,_,H1,rfl,
     I2.kept (t':=s1.toks) λb o e=>Aa4 _ e,Nv _ i k (Ai7 i j k).toNat,?_,λb hb=>?_,q⟩
    .have e1:i+((0:Nat):Int)*k=i:=by simp
     have e2:(((Ai7 i j k).toNat:Nat):Int) - ((0:Nat):Int)=Ai7 i j k:=by have:=(Qq i j k h0).1;omega
     show IsRangeIter _ _ (i+((0:Nat):Int)*k) ((((Ai7 i j k).toNat:Nat):Int) - ((0:Nat):Int)) k;rw[e1,e2];exact Ab9 _ rfl
    .have e:b=(s1.heap.push { cls:= .type "range",data:= .fields #[.int i t, .int j t', .int k zx] }).objs.size:=by simpa using hb
     subst e;exact I2.kH (Aa6 _) (I2.bO.fresh (Aa6 _))
theorem Oc{lo c:Int}{n:Nat}(h0:σ0[0]?=aS aV):fD (zw lo c n) (AN 0) σ0 H n (λi=>σ0.set 0 (aS (.int (lo+i*c)))) where
 go:=λi H' hi s=>hi
 stop:=λH' s=>Aa6 _
 jM:=λi H' x gx R hi s y k=>by
  obtain⟨e,hv⟩:=y;subst e hv;exact k _ (Same.refl _)
 kp:=λi hi=>(Kp.refl _).set h0
noncomputable def XU:List V->Hp->VK->Prop:=λxs H Q=>∃b:Bool,xs=[.bl b]/\Q (.int (if b=true then 1 else 0)) H
end
theorem NF:BG X (.type "int") XU:=by
 intro bu s σ H xs us Q I r h;obtain⟨b,rfl,q⟩:=h;exact PZ bu s σ H _ us Q I r (.inr ⟨b,rfl,q⟩)
end L2
variable {fd:Am7}{i n j mx tr least:Nat}{a C b L CL fi:Ar8}{base:PySem.Heap}{ws N us XN:List At7}{bw:List PySem.Env}{sp:L2.Sp}{to:L2.TE}{rows:List (List At7)}{qual nm:At7}{t:L2.TA}{ns idx:List Nat}{cd a0 u:AB8}{as fp ex:List Ar8}{od:Option Ar8}{env:PySem.Env}{s₀ s₁:aT}{H₀ H1:L2.Hp}{J:L2.It}{apos dU:PySem.Pos}{tb:L2.TS}{W G:Ar8->Prop}{ds:List L2.Dt}{cl:List (At7×Ar8)}{rest:List br}{mA:At7->Option AB8}{pl:At7->Prop}{S:Ar8->L2.Sp->Prop}
namespace MM
theorem Sv{α:Type}{p:List α->Prop}(h0:p [])(h1:∀l a,p l->p (l++[a])):∀l,p l:=λl=>by
 have h:∀r:List α,p r.reverse:=λr=>by
  induction r with
  | nil=>exact h0
  | cons a r ih=>rw[Ag6];exact h1 _ _ ih
 have:=h l.reverse
 rwa [List.reverse_reverse] at this
noncomputable def pV(f:Nat->Bool):Nat->Nat
 | 0=>0
 | w+1=>pV f w+(f w).toNat*2 ^ w
theorem RN(f:Nat->Bool):∀w,pV f w<2 ^ w
 | 0=>by simp[pV]
 | w+1=>by
  have:=RN f w;unfold pV;rw[Nat.pow_succ];cases f w <;> simp <;> omega
theorem Iw(f:Nat->Bool):∀w i,(pV f w).testBit i=(decide (i<w)&&f i)
 | 0,i=>by simp[pV]
 | w+1,i=>by
  have hl:=RN f w;unfold pV;have e:pV f w+(f w).toNat*2 ^ w=2 ^ w*(f w).toNat+pV f w:=by rw[Nat.mul_comm];omega
  rw[e,Nat.testBit_two_pow_mul_add _ hl];by_cases h:i<w
  .rw[bS h,Iw f w i];simp[h,Nat.lt_succ_of_lt h]
  .rw[bG h];by_cases h2:i=w
   .subst h2;cases f i <;> simp
   .have h3:¬ i<w+1:=by omega
    have h4:i - w≠0:=by omega
    have h5:(1:Nat).testBit (i - w)=false:=by
     obtain⟨d,hd⟩:∃d,i - w=d+1:=⟨i - w - 1,by omega⟩;rw[hd,Nat.testBit_succ];simp
    cases f w
    .simp[h3]
    .simp only[Bool.toNat_true,h5,h3,decide_false,Af6]
theorem mS(m w:Nat)(h:m<2 ^ w):pV m.testBit w=m:=by
 refine Nat.eq_of_testBit_eq λi=>?_;rw[Iw];by_cases hi:i<w
 .simp[hi]
 .have:m.testBit i=false:=Nat.testBit_lt_two_pow (Ac6 h (Nat.pow_le_pow_right (by decide) (by omega)));simp[hi,this]
theorem PN{f g:Nat->Bool}{w:Nat}(h:∀i,i<w->f i=g i):pV f w=pV g w:=by
 refine Nat.eq_of_testBit_eq λi=>?_;rw[Iw,Iw];by_cases hi:i<w
 .simp[hi,h i hi]
 .simp[hi]
theorem uL{m w:Nat}(h:m<2 ^ w)(b:∀i,i<w->m.testBit i=f i):m=pV f w:=by
 rw[<-mS m w h];exact PN b
theorem rY(m e:Nat):m / 2 ^ e%2=(m.testBit e).toNat:=by
 rw[Nat.testBit_eq_decide_div_mod_eq];have:m / 2 ^ e%2<2:=Nat.mod_lt _ (by decide);by_cases h:m / 2 ^ e%2=1
 .simp[h]
 .have:m / 2 ^ e%2=0:=by omega
  simp[this]
noncomputable def pH(ns:List Nat):Nat:=ns.foldl (λm n=>m ||| 2 ^ (n - 1)) 0
theorem QV(ns:List Nat)(n:Nat):pH (ns++[n])=pH ns ||| 2 ^ (n - 1):=by unfold pH;rw[List.foldl_append];rfl
theorem lR(ns:List Nat)(i:Nat):(pH ns).testBit i=ns.any λn=>decide (n - 1=i):=by
 refine Sv (p:=λns=>(pH ns).testBit i=ns.any λn=>decide (n - 1=i)) (by simp[pH]) (λl a ih=>?_) ns
 .rw[QV,Nat.testBit_or,ih,List.any_append,Nat.testBit_two_pow];simp
theorem uM{w:Nat}(h:∀n∈ns,n - 1<w):pH ns<2 ^ w:=by
 refine Nat.lt_pow_two_of_testBit _ λi hi=>?_;rw[lR,List.any_eq_false];intro n hn;have:=h n hn;simp;omega
end MM
namespace L2
open PySem PySem.Spec PyProof.Rows
section
theorem Fd{x:Str}{i:Int}(h:∃t,X.mg x=aS (.int i t))(hg:Gl X x:=by rfl)(hd:(x == ("__debug__":Str))=false:=by decide):PE X (.Name x pos) (tC (.int i)):=by
 obtain⟨t,e⟩:=h;exact Lg hg e ⟨t,rfl⟩ hd
theorem Fc(h:∃t,X.mg x=aS (.str z t))(hg:Gl X x:=by rfl)(hd:(x == ("__debug__":Str))=false:=by decide):PE X (.Name x pos) (tC (.str z)):=by
 obtain⟨t,e⟩:=h;exact Lg hg e ⟨t,rfl⟩ hd
theorem Om:∀{xs:List V} {us:List Value},us.length=xs.length->(∀(j:Nat) (u:Value),us[j]?=aS u->∃x,xs[j]?=aS x/\RelV x u)->Vals xs us
 | [],[],_,_=> .nil
 | x::xs,u::us,hl,h=>by
  obtain⟨y,e,r⟩:=h 0 u rfl;simp only[List.getElem?_cons_zero,Ae1.injEq] at e;subst e;exact .cons r (Om (by simpa using hl) λj v hv=>by simpa using h (j+1) v (by simpa using hv))
 | [],_::_,hl,_=>by simp at hl
 | _::_,[],hl,_=>by simp at hl
end
section
variable {Q:VK}{td ty tv:TE}{D:Ends}
theorem SR(h:td σ H λx H1=>ty σ H1 λy H2=>∃a v,x= .ref a/\mP H2 a y (aS v)/\Q v H2):UK td ty σ H Q:=h
theorem Uk(h:tv σ H λv H1=>td σ H1 λx H2=>ty σ H2 λy H3=>∃a H4,x= .ref a/\mQ H3 a y v H4/\D.nx σ H4):UL td ty tv D σ H:=h
theorem T1(h:∀p,H p=aV->Ga ql σ (upd H p (.dK [])) λps H2=>H2 p=aS (.dK [])/\∃bN:List (Key×V),ps=bN.map (λkv=>(kV kv.1,kv.2))/\bN.length<=15/\Q (.ref p) (upd H2 p (.dK (Hh [] bN)))):UW ql σ H Q:=h
theorem Tt(h:R [] H):Ga [] σ H R:=h
theorem Su(h:tk σ H λx H1=>tw σ H1 λy H2=>Ga r σ H2 λps H3=>R ((x,y)::ps) H3):Ga ((tk,tw)::r) σ H R:=h
end
theorem cJ.ig(r:cJ k A):A.units+1<cLine:=by have:=r.un;omega
section
variable {Q:VK}{r:V->List V->Hp->VK->Prop}{T:String}{l p q:Addr}{xs:List V}
theorem Vi(h:to σ H λx H1=>uv K T x H1/\r x [] H1 Q):V9 K T r to σ H Q:=h
theorem WW(h:to σ H λx H1=>uv K T x H1/\t σ H1 λxs H2=>r x xs H2 Q):tBM K T r to t σ H Q:=h
theorem mw(c:bx K H l xs)(h:B):uv K "list" (.ref l) H/\B:=⟨.inl ⟨rfl,xs,c⟩,h⟩
theorem rK(h:B):uv K "str" (.str z) H/\B:=⟨rfl,h⟩
theorem BU(c:H l=aS (.lst xs))(b:xs.length<16777216)(h:Q .bC (upd H l (.lst (xs++[y])))):pC (.ref l) [y] H Q:=⟨l,xs,y,rfl,rfl,c,by rw[Aj9];exact b,h⟩
theorem V2(c:H l=aS (.lst xs))(d:H p=aS (.lst ys))(b:xs.length+ys.length<=16777216)(h:Q .bC (upd H l (.lst (xs++ys)))):pD (.ref l) [.ref p] H Q:=⟨l,p,xs,ys,rfl,rfl,c,d,by rw[Aj9];exact b,h⟩
theorem Dh(c:bx K H l xs)(d:bx K H p ys)(b:xs.length+ys.length<=16777216)(h:∀q,H q=aV->Q (.ref q) (upd H q (.lst (xs++ys)))):Nh K (.ref l) (.ref p) H Q:=⟨l,p,xs,ys,rfl,rfl,c,d,by rw[Aj9];exact b,h⟩
theorem Hv{k:Int}(c:H l=aS (.lst xs))(b1:0<=k)(b2:k<=100000)(b3:xs.length<=100)(h:∀q,H q=aV->Q (.ref q) (upd H q (.lst (Ad1 k.toNat xs).flatten))):Xe (.ref l) (.int k) H Q:=
 ⟨l,k,xs,rfl,rfl,c,by omega,by omega,by
  rw[Aj9];have h1:k.toNat<=100000:=by omega
  exact Ab4 (Nat.mul_le_mul b3 h1) (by decide),h⟩
theorem TV{as bs:List Int}(c:bx K H l (as.map V.int))(d:bx K H p (bs.map V.int))(h:Q (.bl (decide (as=bs))) H):MW K false (.ref l) (.ref p) H Q:=
 ⟨l,p,_,_,rfl,rfl,c,d,Ms as,Ms bs,by rw[Ri];exact h⟩
theorem Kx{z:Addr}(c:bx K H z xs)(h:∀q,H q=aV->Q (.ref q) (upd H q (.lst xs))):K2 K [.ref z] H Q:=⟨z,xs,rfl, .inl c,h⟩
theorem Do{z:Addr}(c:dj K H z xs)(h:∀q,H q=aV->Q (.ref q) (upd H q (.lst xs))):K2 K [.ref z] H Q:=⟨z,xs,rfl, .inr c,h⟩
theorem Df{z:Addr}(c:bx K H z xs)(h:∀q,H q=aV->Q (.ref q) (upd H q (.tup xs))):Nl K [.ref z] H Q:=⟨z,xs,rfl, .inl ⟨c,h⟩⟩
end
end L2
namespace L2
open PySem
open Sem (wp)
open AutoSeq1 (wpAny_loadPart')
section
variable {prog:Program}{w:bg}{E:Value->aT->Prop}{s:aT}
theorem MV{v:Value}{Q:Value->aT->Prop}(ft:TypeCalled T newId "object.__init__")(gh:(aS newId != aS "object.__new__")=true)
  (hct:checkTypeCall T ⟨[v],[(x,u)]⟩=pure ()) (xE:checkBuiltinCall newId ⟨[.type T,v],[(x,u)]⟩=pure ()) (bO:∀obj,argsOk "object.__init__" ⟨[obj,v],[(x,u)]⟩) (uN:entryFor table newId=aS Bn)
  (g:aW (aX prog w) A.in1.in1 (Bn ⟨[.type T,v],[(x,u)]⟩) (λfin s1=>∃obj,fin= .done (.ret obj)/\s1.TypeIs obj T/\Q obj s1) E s):aW (aX prog w) A (call (.type T) [v] [(x,u)]) Q E s:=by
 obtain⟨c,tl,aaP⟩:=ft.mro;have aaK:=ft.made;have xC:=ft.sub;refine Ah2 (codeAny_of_tree ?_);show aW _ _ (callAny (.type T) _) _ _ _;refine Ab2 ⟨Aw9 _ (by decide +kernel),codeAny_builtin F.entry_type_call ?_⟩;rw[Around.under_plain (weight_type_call_type T [v] [(x,u)]) (units_type_call_type T [v] [(x,u)])];have h1:=ft.notType;have h2:=ft.canCreate
 repeat (any_goals (first | assumption | wp_step))
 refine An0 ft.plain uN (wpAny_of_eq xE (Ac7 g (λfin s1 q=>?_) λ_ _ q=>q));obtain⟨obj,rfl,hT,q⟩:=q;have hli:=ft.init.lookup;have zy:=ft.init.bind obj;show aW _ _ _ _ _ _
 repeat (any_goals (first | assumption | wp_step))
 refine An0 ft.init.plain F.entry_object_init (ft.init.check _ _ _ _ _ _ _ _ hT (bO obj) ?_)
 repeat (any_goals (first | assumption | wp_step))
 trace_state
theorem Nj{v:Value}{t:Tok}{Q:Value->aT->Prop}
  (h:aW (aX prog w) A (pyIter v) (λnv s1=>Q (.ref s1.heap.objs.size) { s1 with heap:=s1.heap.push { cls:= .type "enumerate",data:= .fields #[.none, .bool false,nv,Ay6 1, .none, .none] } }) E s):
  aW (aX prog w) A (Aq7.«enumerate.__new__» ⟨[.type "enumerate",v],[("start", .int 1 t)]⟩) (λfin s1=>∃obj,fin= .done (.ret obj)/\Q obj s1) E s:=by
 have xC:=sub_enumerate;have hit:∀{R:Value->aT->Prop},(∀nv s1,Q (.ref s1.heap.objs.size) { s1 with heap:=s1.heap.push { cls:= .type "enumerate",data:= .fields #[.none, .bool false,nv,Ay6 1, .none, .none] } }->R nv s1)->aW (aX prog w) A (pyIter v) R E s:=λk=>Ac7 h k λ_ _ q=>q;unfold Aq7.«enumerate.__new__»
 wp_walk
 refine wpAny_stack_any λst=>Ab2 ?_;split
 .rename_i c _ _ _ _ _
  cases (c == Ap8 "enumerate")
  .wp_walk using hit
   intro nv s1 q
   wp_walk
   exact⟨_,rfl,q⟩
  .wp_walk using hit
   intro nv s1 q
   wp_walk
   exact⟨_,rfl,q⟩
 .wp_walk using hit
  intro nv s1 q
  wp_walk
  exact⟨_,rfl,q⟩
theorem Of{v:Value}{t:Tok}{Q:Value->aT->Prop}
  (h:aW (aX prog w) A.in1.in1 (pyIter v) (λnv s1=>∃it,nv= .ref it/\∀h',IsEnum h' s1.heap.objs.size it 1 .none->(∀b o,s1.heap.get? b=aS o->h'.get? b=aS o)->h'.objs.size=s1.heap.objs.size+1->Q (.ref s1.heap.objs.size) { s1 with heap:=h' }) E s):
  aW (aX prog w) A (call (.type "enumerate") [v] [("start", .int 1 t)]) Q E s:=by
 refine MV F.called_enumerate (by decide) (by kernel_rfl) (by kernel_rfl) (λobj=>by unfold argsOk;kernel_rfl) F.entry_enumerate_new (Nj (Ac7 h (λnv s1 q=>?_) λ_ _ q=>q));obtain⟨it,rfl,q⟩:=q;refine⟨⟨_,Ab9 _ rfl,rfl⟩,q _ (Ab9 _ rfl) (λb o e=>Aa4 _ e) (Ai5 ..)⟩
end
theorem Wq{prog:Program}{w:bg}{Pv:Nat->Value->Prop}{St:Nat->Heap->Prop}(k:Nat)(D:Draws prog w A it fp n Pv St):
    Draws prog w A it fp (n+k) (λi v=>∃j,i=j+k/\Pv j v) (λi h=>∃j,i=j+k/\St j h) where
  live:=λi h ⟨j,_,st⟩=>D.live j h st
  frame:=λi h h' ⟨j,e,st⟩ q=>⟨j,e,D.frame j h h' st q⟩
  item:=λi s Q E hi ⟨j,e,st⟩ hQ=>D.item j s Q E (by omega) st λx h' tk p lM sb=>hQ x h' tk ⟨j,e,p⟩ ⟨j+1,by omega,lM⟩ sb
  done:=λs Q E ⟨j,e,st⟩ hE=>D.done s Q E (by
    have q:j=n:=by omega
    rw[q] at st;exact st) hE
theorem M9{args:List (Bool×Sem Value)}{kws:List (Option Str×Sem Value)}{Q:Value->aT->Prop}
  (hp:args.any (·.1)=false) (hk:kws.any (·.1.isNone)=false) (h:aW M A (evalArgs (.type T) true args kws) (λa s1=>aW M A (call (.type T) a.pos a.kw) Q E s1) E s):aW M A (callWith pos (.type T) [] args kws) Q E s:=by
 unfold callWith;refine Aa1 (Ae8 (Ac7 h (λa s1 h1=>Aa1 (Ag1 ?_)) λ_ _ q=>q));simp only[hp,hk,Bool.or_false];refine Aa1 (Ab2 ?_);refine Aa1 (Ac7 h1 (λr s2 hr=>?_) λ_ _ q=>q);exact Aa1 (Ae8 (wpAny_point (Ab2 hr)))
end L2
namespace L2
open PySem PySem.Spec PyProof.Rows
theorem Vf{prog:Program}{w:bg}(hh:A.handled=aV)(tp:Bool)(it l:Addr)(gh:l≠it)(items:Array Value):
  Draws prog w A it [it,l] items.size (λi v=>items[i]?=aS v) (λi h=>Cd tp h it l i/\Cf tp h l items) where
 live:=λ_ _ st=>let ⟨o,e,_⟩:=BX st.1;⟨o,e⟩
 frame:=λ_ _ _ st hk=>⟨AW st.1 λo e=>hk it (by simp) o e,Dd st.2 λo e=>hk l (by simp) o e⟩
 item:=λi s Q E hi st hQ=>Hf st.1 st.2 (x:=items[i]) (by simp[hi]) λh' hit sb=>hQ _ h' s.toks (by simp[hi]) ⟨hit,Dd st.2 λo e=>(sb.2 l gh).trans e⟩ sb
 done:=λs Q E st hE=>IB hh st.1 st.2 (by simp) hE
noncomputable def Tf(tp:Bool)(K:aU)(a:Addr):It:=
 ⟨λi H=>∃xs x,gZ tp K H a xs/\xs[i]?=aS x,λi H v H'=>∃p x,H p=aV/\v= .ref p/\H'=upd H p (.tup [.int ((i+1:Nat):Int),x])/\∀xs,gZ tp K H a xs->xs[i]?=aS x,λi H=>∃xs,gZ tp K H a xs/\xs.length<=i⟩
theorem NH{P:Program}{w:bg}{k:Nat}(tp:Bool)(a e it:Addr)(gh:e≠it):
    Turn P w K (.Tuple elts k pos) (Tf tp K a) [e,it] e (λi h=>(∃old,IsEnum h e it ((i+1:Nat):Int) old)/\Cd tp h it a i) where
  mem:=by simp
  obj:=λi h st b hb=>by
    obtain⟨⟨old,he⟩,hi⟩:=st;obtain⟨o,eo,d⟩:=BX hi;rcases Aa7.mp hb with z | z
    · subst z;exact⟨_,he,λv z=>by cases (show Ax5 _=Ay9 v from z)⟩
    · have z:b=it:=by simpa using z
      subst z;exact⟨o,eo,λv z=>by rw[d] at z;cases z⟩
  keep:=λi h h' st kp=>by
    obtain⟨⟨old,he⟩,hi⟩:=st;exact⟨⟨old,kp e (by simp) _ he⟩,AW hi λo z=>kp it (by simp) o z⟩
  item:=by
    intro X hP hw hK hc i bu s σ H E I hf st hg;subst hP hw hK;obtain⟨xs,x,hq,hx⟩:=hg;obtain⟨its,rv,p⟩:=CS I hq;obtain⟨u,hu,ru⟩:=rv.get hx;obtain⟨⟨old,he⟩,hi⟩:=st;obtain⟨oi,ei,di⟩:=BX hi;obtain⟨oa,na,ea,da⟩:=FS p;have hel:e<s.heap.objs.size:=Ab1 he;have xA:it<s.heap.objs.size:=Ab1 ei;have nia:a≠it:=λz=>by
      subst z;rw[ei] at ea;cases ea;rw[di] at da;cases da
    have uO:e≠a:=λz=>by
      subst z;rw[show s.heap.get? e=_ from he] at ea;cases ea;cases (show Ax5 _=Data.seq _ _ from da)
    have dZ:i<its.toArray.size:=by
      have:=(Ab8.mp hu).1;simpa using this
    have D:=Wq 1 (Vf (prog:=X.prog) (w:=X.w) (A:=X.A.in1) (I.ok.hd hc) tp it a nia its.toArray);refine wpAny_pyNext_enum_itemD (i:=i+1) D he ⟨i,rfl,hi,p⟩ (by omega) gh (by simp[gh,uO]) λv h' tk pv ho lM hT hsz hk=>?_;obtain⟨j,ej,ev⟩:=pv;obtain⟨j2,ej2,gn,p'⟩:=lM;have ej:j=i:=by omega
    have ej2:j2=i+1:=by omega
    subst ej ej2;have ev:v=u:=by
      rw[show its.toArray[j]?=aS u by simpa using hu] at ev;exact(Ae1.inj ev).symm
    subst ev;have I0:=I.laid (h':=s.heap.push { cls:= .type "tuple",data:= .seq #[.int ((j+1:Nat):Int) tk,v] }) (a:=s.heap.objs.size) (o:= .tup [.int ((j+1:Nat):Int),x]) (t':=tk+1) (λ_ _ q=>Aa4 _ q) (Aa6 _)
      ⟨(by show 2<=sizeLine;decide),[.int ((j+1:Nat):Int) tk,v], .cons ⟨_,rfl⟩ (.cons ru .nil),⟨_,Ab9 _ rfl,rfl,_,rfl⟩⟩
    have f0:∀b∈[e,it],Dq X bu (upd H s.heap.objs.size (.tup [.int ((j+1:Nat):Int),x])) b:=λb hb=>Oi (hf b hb) (by
      rcases Aa7.mp hb with z | z
      · rw[z];exact Ac8 hel
      · rw[show b=it by simpa using z];exact Ac8 xA)
    have I1:=Inv.eV (t':=tk+1) (h':=h') [e,it] I0 f0 (λb o hb z=>by
      have hb1:b≠e:=λq=>hb (by simp[q]);have kB:b≠it:=λq=>hb (by simp[q]);rcases AC4 (show (s.heap.push { cls:= .type "tuple",data:= .seq #[.int ((j+1:Nat):Int) tk,v] }).get? b=aS o from z) with ⟨q1,q2⟩ | q
      · rw[q1,q2];exact hT
      · exact hk b o hb1 kB q)
    refine⟨.ref s.heap.objs.size,rfl,wpAny_letOwnedTupleGo_enum (s:={ s with heap:=h',toks:=tk+1 }) ho λh2 he2 sb=>?_⟩;exact⟨.ref s.heap.objs.size,_,Inv.eV (t':=tk+1) (h':=h2) [e,it] I1 f0 (λb o hb z=>(sb.2 b λq=>hb (by simp[q])).trans z),rfl,⟨_,x,I.fresh,rfl,rfl,λys hy=>by rw[LL I hy hq];exact hx⟩,
      ⟨⟨v,by simpa using he2⟩,AW gn λo z=>(sb.2 it gh.symm).trans z⟩,λb hb=>(f0 b hb).1⟩
  done:=by
    intro X hP hw hK hc i bu s σ H E I hf st hg;subst hP hw hK;obtain⟨xs,hq,hx⟩:=hg;obtain⟨its,rv,p⟩:=CS I hq;obtain⟨⟨old,he⟩,hi⟩:=st;obtain⟨oi,ei,di⟩:=BX hi;obtain⟨oa,na,ea,da⟩:=FS p;have hT:s.TypeIs (.ref e) "enumerate":=⟨_,he,rfl⟩;have hl:=rv.length;unfold pyNext;refine Aa1 (Aw0 (Ag2 (name:=Ai9 "__next__") hT F.slot_enumerate_next (As0 F.slot_enumerate_next hT F.entry_enumerate_next ?_ (F.args_enumerate_next_1 _))));show aW _ _ (field (.ref e) 2 >>= _) _ _ _;refine Aa1 (Ad8 he rfl (x:= .ref it) rfl ?_);refine Aa1 (IB (A:=X.A.in1) (I.ok.hd hc) hi p (by simp;omega) λh' x eb xF=>?_);obtain⟨o,ho,tE⟩:=xF;exact Aa1 (wpAny_isInstance (T:="StopIteration") (b:=true) ⟨o,ho,tE⟩ isSubtype_stop (Ab2 ⟨rfl,I.eV (t':=s.toks) [e,it] hf λb o hb z=>eb b o (λq=>hb (by simp[q])) z⟩))
  self:=λ_ _ _ _ _ st h=>by
    obtain⟨⟨old,he⟩,_⟩:=st;exact Az7 he h
section
variable {k:Nat}{oh:Pos}
noncomputable def RO(K:aU)(ta:TA):TI:=λσ H R=>ta σ H λvs H1=>∃tp a,vs=[.ref a]/\(∃xs,gZ tp K H1 a xs)/\R (Tf tp K a) H1
theorem QZ{l:br}(hg:Gl X "enumerate")(hm:X.mg "enumerate"=aV)(ha:PA X [l] ta)(hK:X.K=K:=by rfl)(hs:aZ [l] X.env=[(false,bh l X.env)]:=by rfl):
  PI X (.Tuple elts k oh) (.Call (.Name "enumerate" p) [l] [⟨aS "start", .Constant (.int 1) cj cp,kp⟩] pos) (RO K ta):=by
 subst hK;intro bu s σ H R I h;refine Af4 (Es I hg hm KL (M9 (by rw[hs];rfl) rfl (PyProof.Rows.evalArgs_kw2 rfl ?_ (by rw[hs];rfl))));refine bZ (ha pos bu s σ H _ I h) λus s1 ⟨vs,H1,I1,r1,q1⟩=>PyProof.Rows.kwAll_cons ?_;refine Ad bu s1 σ H1 (λv H2=>v= .int 1/\H2=H1) I1 ⟨rfl,rfl⟩ |> λz=>bZ z λu s2 ⟨v,H2,I2,r2,ev,eh⟩=>?_
 subst ev eh;obtain⟨t,rfl⟩:=r2;refine PyProof.Rows.kwAll_nil ?_;obtain⟨tp,a,e,⟨xs,hq⟩,q⟩:=q1;subst e;cases r1 with
 | cons r rr=>
  cases rr;cases r;obtain⟨its,rv,pl⟩:=CS I2 hq;refine Of ?_;refine JG pl ⟨_,rfl,λh' he hk hsz=>?_⟩;refine Az7 he ?_;have hz:(s2.heap.push { cls:= .type (Kk tp),data:= .fields #[.ref a, .int 0 0] }).objs.size=s2.heap.objs.size+1:=Ai5 ..;have hk2:∀b o,s2.heap.get? b=aS o->h'.get? b=aS o:=λb o z=>hk b o (Aa4 _ z);have I3:=I2.kept (t':=s2.toks) hk2;have st:Cd tp h' s2.heap.objs.size a 0:=AW Hi λo z=>hk _ o z;refine⟨_,[_,s2.heap.objs.size],_,_,H2,rfl,I3,NH tp a _ _ (by rw[hz];exact Nat.succ_ne_self _),⟨⟨_,he⟩,st⟩,λb hb=>?_,q⟩;have qx:s2.heap.objs.size<=b:=by
   rcases Aa7.mp hb with z | z
   .rw[z,hz];exact Ag5 _
   .have z:b=s2.heap.objs.size:=by simpa using z
    rw[z];exact Aa6 _
  exact I2.kH qx (I2.bO.fresh qx)
end
noncomputable def Isq(tp:Bool)(K:aU)(a:Addr):It:=if tp=true then wZ K a else ud K a
structure oE(J:It)(g:TG)(H:Hp)(n:Nat)(set:Nat->St->St):Prop where
 go:∀i H',i<n->Same H H'->J.go i H'
 stop:∀H',Same H H'->J.stop n H'
 jM:∀i σ H' x gx (R:St->Hp->Prop),i<n->Same H H'->J.jM i H' x gx->(∀H3,Same H' H3->R (set i σ) H3)->g x σ gx R
theorem Ul{set:Nat->St->St}{D:Ends}(S:oE J g H n set)(Pv:Nat->St->Hp->Prop)(h0:Pv 0 σ H)(hk:∀i σ H',Pv i σ H'->Same H H')
  (hs:∀i σ H' H3,i<n->Pv i σ H'->Same H' H3->tb { D with nx:=Pv (i+1),ct:=Pv (i+1),bk:=D.nx } (set i σ) H3) (hd:∀σ H',Pv n σ H'->D.nx σ H'):
  ∃W:Nat->Nat->St->Hp->Prop,(∃m,W 0 m σ H)/\∀i m σ H,W i m σ H->
   (J.stop i H/\D.nx σ H)\/(J.go i H/\∃N:St->Hp->Prop,(∀σ' H',N σ' H'->∃m',m'<m/\W (i+1) m' σ' H')/\∀x H',J.jM i H x H'->g x σ H' λσ2 H2=>tb { D with nx:=N,ct:=N,bk:=D.nx } σ2 H2):=by
 refine⟨λi m σ H'=>m=n - i/\i<=n/\Pv i σ H',⟨n,by simp,Ad4 _,h0⟩,?_⟩;rintro i m σ H1 ⟨rfl,hi,p⟩;by_cases dZ:i<n
 .exact .inr ⟨S.go i H1 dZ (hk _ _ _ p),Pv (i+1),λσ' H' p'=>⟨n - (i+1),by omega,rfl,dZ,p'⟩,λx H' y=>S.jM i σ H1 x H' _ dZ (hk _ _ _ p) y λH3 s3=>hs i σ H1 H3 dZ p s3⟩
 .have e:i=n:=by omega
  subst e;exact .inl ⟨S.stop H1 (hk _ _ _ p),hd σ H1 p⟩
section
variable {xs zs:List V}{t1 t2:Bool}{i1 i2:Nat}
theorem XQ(h:gZ tp K H a xs):oE (Isq tp K a) (AN i1) H xs.length (λi σ=>σ.set i1 (aS (xs.getD i .bC))):=by
 cases tp with
 | false=>exact {
  go:=λi H' hi s=>⟨xs,xs[i],gZ.same (tp:=false) h s,by simp[hi]⟩
  stop:=λH' s=>⟨xs,gZ.same (tp:=false) h s,Aa6 _⟩
  jM:=λi σ H' x gx R hi s y k=>by
   obtain⟨e,hv⟩:=y;subst e;have e:x=xs.getD i .bC:=by
    rw[Aa2,hv xs (gZ.same (tp:=false) h s)];rfl
   subst e;exact k _ (Same.refl _) }
 | true=>exact {
  go:=λi H' hi s=>⟨xs,xs[i],gZ.same (tp:=true) h s,by simp[hi]⟩
  stop:=λH' s=>⟨xs,gZ.same (tp:=true) h s,Aa6 _⟩
  jM:=λi σ H' x gx R hi s y k=>by
   obtain⟨e,hv⟩:=y;subst e;have e:x=xs.getD i .bC:=by
    rw[Aa2,hv xs (gZ.same (tp:=true) h s)];rfl
   subst e;exact k _ (Same.refl _) }
theorem LF(h:bx K H a xs):oE (ud K a) (AN i1) H xs.length (λi σ=>σ.set i1 (aS (xs.getD i .bC))):=XQ (tp:=false) h
theorem ME{lo:Int}:oE (rE lo n) (AN i1) H n (λi σ=>σ.set i1 (aS (.int (lo+i)))) where
 go:=λi H' hi s=>hi
 stop:=λH' s=>Aa6 _
 jM:=λi σ H' x gx R hi s y k=>by
  obtain⟨e,hv⟩:=y;subst e hv;exact k _ (Same.refl _)
theorem Q7(h:gZ tp K H a xs):oE (Tf tp K a) (LK K 2 (Dp (AN i1) (Dp (AN i2) Na))) H xs.length (λi σ=>(σ.set i1 (aS (.int ((i+1:Nat):Int)))).set i2 (aS (xs.getD i .bC))) where
 go:=λi H' hi s=>⟨xs,xs[i],h.same s,by simp[hi]⟩
 stop:=λH' s=>⟨xs,h.same s,Aa6 _⟩
 jM:=λi σ H' x gx R hi s y k=>by
  obtain⟨p,v,hp,rfl,rfl,hv⟩:=y;have e:v=xs.getD i .bC:=by
   rw[Aa2,hv xs (h.same s)];rfl
  subst e;exact⟨p,_,rfl,dj.of upd_same,rfl,_,_,rfl,_,_,rfl,rfl,k _ (Al hp)⟩
end
theorem bA(a b:Nat):Builtin.bitAnd (a:Int) (b:Int)=((a &&& b:Nat):Int):=by
 rw[PyProof.Rows.bitAnd_pp (by omega) (by omega)];rfl
theorem Np(n:Nat):(1:Int)*2 ^ n=((2 ^ n:Nat):Int):=by
 rw[Int.one_mul];push_cast;rfl
section
variable {Q:VK}{D:Ends}{ti:y9}{x:V}
theorem V7(e:σ[i]?=aS (aS x))(h:te σ H λy H1=>ti x y H1 λz H2=>D.nx (σ.set i (aS z)) H2):WX i te ti D σ H:=⟨x,e,h⟩
end
noncomputable abbrev nV(n:Nat):V:= .int (n:Nat)
theorem M7(h:i<(ns.map nV).length):(ns.map nV).getD i .bC= .int (ns.getD i 0:Nat):=by
 have h':i<ns.length:=by simpa using h
 simp[Aa2,h']
theorem DY{ns:List Int}(h:i<(ns.map V.int).length):(ns.map V.int).getD i .bC= .int (ns.getD i 0):=by
 have h':i<ns.length:=by simpa using h
 simp[Aa2,h']
theorem SM{ns:List Int}{k:Int}(h0:0<=k)(h1:k<ns.length):mK (ns.map V.int) k=aS (.int (ns.getD k.toNat 0)):=by
 obtain⟨j,rfl⟩:∃j:Nat,k=j:=⟨k.toNat,by omega⟩;have h':j<ns.length:=by omega
 refine AA ?_;rw[show ((j:Int)).toNat=j by omega];simp[Aa2,h']
theorem Ed{st:Nat->St}{G:Nat->Int}(S:fD J g σ0 H n st)(hD:H D=aV)(hn:n<=100000)
  (he:∀i H' (R:VK),i<n->Same H H'->(∀H3,Same H' H3->R (.int (G i)) H3)->te (st i) H' R)
  (hd:∀H',Same H H'->H' D=aS (.lst (((Ab7 n).map G).map V.int))->Q (.ref D) H'):DX J σ0 g MQ te Q H D:=by
 refine A3 (m:=0) (G:=λi=> .int (G i)) S hD hn (λi H' R hi s k=>he i H' R hi s λH3 s3=>k H3 _ s3 (.int _)) λH' ys s hl r=>?_;have e:(Ab7 n).map (λi=>Dt.int (G i))=((Ab7 n).map G).map Dt.int:=by rw[Ae2];rfl
 rw[e] at r;obtain⟨b,eb,hb,fb⟩:=OY r;cases eb;exact hd H' s hb
theorem Jt{st:Nat->St}{G:Nat->Int}(S:fD J g σ0 H n st)(hD:H D=aV)(hn:n<=100000)
  (ht:∀i H' (R:Bool->Hp->Prop),i<n->Same H H'->(∀H3,Same H' H3->R (p i) H3)->tc (st i) H' R)
  (he:∀i H' (R:VK),i<n->p i=true->Same H H'->(∀H3,Same H' H3->R (.int (G i)) H3)->te (st i) H' R)
  (hd:∀H',Same H H'->H' D=aS (.lst ((((Ab7 n).filter p).map G).map V.int))->Q (.ref D) H'):DX J σ0 g tc te Q H D:=by
 refine HH (m:=0) (p:=p) (G:=λi=> .int (G i)) S hD hn ht (λi H' R hi hp s k=>he i H' R hi hp s λH3 s3=>k H3 _ s3 (.int _)) λH' ys s hl r=>?_;have e:((Ab7 n).filter p).map (λi=>Dt.int (G i))=(((Ab7 n).filter p).map G).map Dt.int:=by rw[Ae2];rfl
 rw[e] at r;obtain⟨b,eb,hb,fb⟩:=OY r;cases eb;exact hd H' s hb
theorem GK{st:Nat->St}{G:Nat->Bool}(S:fD J g σ0 H n st)(hD:H D=aV)(hn:n<=100000)
  (he:∀i H' (R:VK),i<n->Same H H'->(∀H3,Same H' H3->R (.bl (G i)) H3)->te (st i) H' R)
  (hd:∀H',Same H H'->H' D=aS (.lst (((Ab7 n).map G).map V.bl))->Q (.ref D) H'):DX J σ0 g MQ te Q H D:=by
 refine A3 (m:=0) (G:=λi=> .bl (G i)) S hD hn (λi H' R hi s k=>he i H' R hi s λH3 s3=>k H3 _ s3 (.bl _)) λH' ys s hl r=>?_;have e:ys=((Ab7 n).map G).map V.bl:=by
  cases r with
  | @lst _ _ vs _ q f b l ee=>
   rw[hl] at q;cases q;refine Af8 (by simpa using l) λi h1 h2=>?_;have hi:i<n:=by simpa using h2
   have:=ee i ys[i] (.bl (G i)) (by simp[h1]) (by simp[hi]);cases hv:ys[i] <;> rw[hv] at this <;> cases this;simp
 rw[e] at hl;exact hd H' s hl
noncomputable def Q8(P:Program)(w:bg)(K:aU)(mg:Str->Option Value)(base:Heap)(x:Str)(C:Addr)(k:Nat)(ps:List Str)(sp:Sp):Prop:=
 ∃f fd,mg x=aS (.ref C)/\Mk K C f/\bQ P w K mg base c6 k f fd ps sp/\Binds K fd ps []
noncomputable def Qy(P:Program)(w:bg)(K:aU)(mg:Str->Option Value)(base:Heap)(C:Addr)(m:Str)(k:Nat)(ps:List Str)(sp:Sp):Prop:=
 ∃f fd,nZ K C/\Meth K C m f/\bQ P w K mg base c6 k f fd ps sp/\Binds K fd ps []
section
variable {x m:Str}{k:Nat}{o e:br}{ta:TE}{p:Pos}
theorem Sw(h:Q8 X.prog X.w X.K X.mg X.base x C k ps sp)(hr:cJ (k+1) X.A)(ha:PA X (e::es) t)(hg:Gl X x:=by rfl)(om:(x == ("__debug__":Str))=false:=by decide)
  (he:aZ (e::es) X.env=(false,bh e X.env)::aZ es X.env:=by rfl) (kr:(An9 pos (aZ es X.env)).any (·.1)=false:=by rfl):
  PE X (.Call (.Name x p) (e::es) [] pos) (Oj C sp [] E0 t):=by
 obtain⟨f,fd,hm,M,F,hb⟩:=h;exact Th M F hr hg hm hb .nil QM ha om he kr
theorem Qa{pl:Sem Bool}(he:PE X o ta)(h:Qy X.prog X.w X.K X.mg X.base C m k ps sp)(hr:cJ k X.A)
  (ht:bh (.Call (.Attribute o m apos) [] [] pos) X.env=(do
   let ov <-bh o X.env
   standAt apos.atName
   let (f,first) <-Ax4 [ov] (getMethod ov m pl)
   callWith pos f first (An9 pos (aZ [] X.env)) (backToKw pos (Az4 [] X.env))):=by rfl):
  PE X (.Call (.Attribute o m apos) [] [] pos) (Oo C m sp [] E0 ta MC):=by
 obtain⟨f,fd,c,hm,F,hb⟩:=h;exact Qp (pl:=pl) he c hm F hr hb .nil QM ht
theorem G8(h:X.mg x=aS (.ref C))(hg:Gl X x:=by rfl)(hd:(x == ("__debug__":Str))=false:=by decide):PE X (.Name x pos) (tC (.ref C)):=Lg hg h rfl hd
end
structure Kind(K:aU)(C:Addr):Prop where
 cl:nZ K C
 ha:Aj4 K (.ref C) "__class__"=aS (aS (.builtin "object.__class__"))
 hn:Ax2 K (.builtin "object.__class__") "__get__"=aS (aS (.builtin "getset_descriptor.__get__"))
 uo:AD2 K (.builtin "object.__class__")=aS true
 hm:Aw5 K C (.type "object")=aS true
section
variable {Q:VK}{D:Ends}{tv:TE}{dx:Addr}{fs:List (Str×V)}{f:Str}{v:V}
theorem Vx(h:te σ H λx H1=>∃a C dx fs v,x= .ref a/\H1 a=aS (.ins C dx fs)/\nZ K C/\cU K C f/\fs.lookup f=aS v/\Q v H1):Wf K te f σ H Q:=h
theorem Vn(h:tv σ H λy H1=>te σ H1 λx H2=>∃a C dx fs,x= .ref a/\H2 a=aS (.ins C dx fs)/\nZ K C/\cU K C f/\fs.length<1000/\D.nx σ (upd H2 a (.ins C dx (A9 f y fs)))):WO K te tv f D σ H:=h
theorem Gc(e:H a=aS (.ins C dx fs))(c:nZ K C)(n:cU K C f)(l:fs.length<1000)(h:D.nx σ (upd H a (.ins C dx (A9 f y fs)))):∃a' C' dx' vL,V.ref a= .ref a'/\H a'=aS (.ins C' dx' vL)/\nZ K C'/\cU K C' f/\vL.length<1000/\D.nx σ (upd H a' (.ins C' dx' (A9 f y vL))):=⟨a,C,dx,fs,rfl,e,c,n,l,h⟩
theorem S6(h:t σ H λvs H1=>∀x dx,H1 x=aV->H1 dx=aV->dx≠x->sp (.ref x::vs) (upd (upd H1 dx (.own x)) x (.ins C dx [])) (λv H2=>v= .bC/\Q (.ref x) H2) E0):Oj C sp [] E0 t σ H Q:=by
 unfold Oj;simpa using h
theorem Tu{m:Str}(h:te σ H λx H1=>∃a dx fs,x= .ref a/\H1 a=aS (.ins C dx fs)/\fs.lookup m=aV/\t σ H1 λvs H2=>sp (x::vs) H2 Q E0):Oo C m sp [] E0 te t σ H Q:=by
 unfold Oo;simpa using h
end
theorem RI{ta tb tc:TE}(h:ta σ H λx H1=>tb σ H1 λy H2=>r x y H2 λz H3=>∃k,z= .bl k/\(if k=true then tc σ H3 λw' H4=>r' y w' H4 Q else Q (.bl false) H3)):NK r r' ta tb tc σ H Q:=h
noncomputable def Be(x:V)(a b:Int):Bool:=match x with | .int i=>decide (a<=i)&&decide (i<=b) | _=>false
theorem HN{b b':Bool}(e:b=b')(h:Q (.bl b') H):Q (.bl b) H:=e▸h
theorem WF{b:Bool}{A:Prop}(h1:b=true->A)(h2:b=false->B):if b=true then A else B:=by
 cases b with
 | true=>exact h1 rfl
 | false=>exact h2 rfl
theorem RF{u:HO}(h1:H x=aV)(h2:H dx=aV):Same H (upd (upd H dx u) x o):=λb q e=>by
 rw[An (Ba e h1),An (Ba e h2)];exact e
mutual
noncomputable def dF:Dt->Dt->Bool
 | .bC, .bC=>true
 | .bl a, .bl b=>a == b
 | .int a, .int b=>a == b
 | .str a, .str b=>a == b
 | .bl a, .int b=>(if a then 1 else 0) == b
 | .int a, .bl b=>a == (if b then 1 else 0)
 | .lst xs, .lst ys=>Ff xs ys
 | .tup xs, .tup ys=>Ff xs ys
 | _,_=>false
noncomputable def Ff:List Dt->List Dt->Bool
 | [],[]=>true
 | x::xs,y::ys=>dF x y&&Ff xs ys
 | _,_=>false
end
theorem Dg:∀{xs ys:List Dt},xs.length≠ys.length->Ff xs ys=false
 | [],[],h=>bV rfl h
 | [],_::_,_=>by unfold Ff;rfl
 | _::_,[],_=>by unfold Ff;rfl
 | x::xs,y::ys,h=>by
  unfold Ff;rw[Dg (xs:=xs) (ys:=ys) (λe=>h (by simp[e])),Ag8]
theorem Dn:∀{xs ys:List Dt},xs.length=ys.length->Ff xs ys=(Ab7 xs.length).all λi=>dF (xs.getD i .bC) (ys.getD i .bC)
 | [],[],_=>by unfold Ff;rfl
 | [],_::_,h=>by simp at h
 | _::_,[],h=>by simp at h
 | x::xs,y::ys,h=>by
  unfold Ff;rw[Dn (xs:=xs) (ys:=ys) (by simpa using h),Aa9,List.range_succ_eq_map,List.all_cons,List.all_map];rfl
mutual
theorem Fn:∀d:Dt,dF d d=true
 | .bC=>by unfold dF;rfl
 | .bl a=>by unfold dF;simp
 | .int a=>by unfold dF;simp
 | .str a=>by unfold dF;simp
 | .lst xs=>by unfold dF;exact Hq xs
 | .tup xs=>by unfold dF;exact Hq xs
theorem Hq:∀d:List Dt,Ff d d=true
 | []=>by unfold Ff;rfl
 | x::xs=>by unfold Ff;rw[Fn x,Hq xs];rfl
end
theorem Rp.inj{d e:Dt}(r:Rp H F n v d)(r2:Rp H G m v e):d=e:=by
 induction r generalizing m e with
 | bC=>cases r2;rfl
 | bl b=>cases r2;rfl
 | int i=>cases r2;rfl
 | str z=>cases r2;rfl
 | @lst n a vs ds h f b l el ih=>
  cases r2 with
  | @lst m _ zz ds2 h2 f2 b2 l2 jL=>
   rw[h] at h2;cases h2;congr 1;refine Af8 (by omega) λi h1 h3=>?_;have hv:i<vs.length:=by omega
   exact ih i vs[i] ds[i] (by simp[hv]) (by simp[h1]) (jL i vs[i] ds2[i] (by simp[hv]) (by simp[h3]))
  | tup h2 _ _ _=>rw[h] at h2;cases h2
 | @tup n a vs ds h b l el ih=>
  cases r2 with
  | @tup m _ zz ds2 h2 b2 l2 jL=>
   rw[h] at h2;cases h2;congr 1;refine Af8 (by omega) λi h1 h3=>?_;have hv:i<vs.length:=by omega
   exact ih i vs[i] ds[i] (by simp[hv]) (by simp[h1]) (jL i vs[i] ds2[i] (by simp[hv]) (by simp[h3]))
  | lst h2 _ _ _ _=>rw[h] at h2;cases h2
section
variable {s:aT}
theorem FK{xs:List V}{es:List Dt}{cE:List Value}(r:Vals xs its)(r2:Vals ys cE)(l1:xs.length=ds.length)(l2:ys.length=es.length)
  (el:∀(i:Nat) (v:V) (d:Dt),xs[i]?=aS v->ds[i]?=aS d->Rp H F n v d) (jL:∀(i:Nat) (v:V) (d:Dt),ys[i]?=aS v->es[i]?=aS d->Rp H G n v d)
  (ih:∀{v u:V} {d e:Dt} {rv ru:Value},Rp H F n v d->Rp H G n u e->RelV v rv->RelV u ru->At8 A s rv ru (dF d e)):
  ∀j (h1:j<its.toArray.size) (h2:j<cE.toArray.size),At8 A s its.toArray[j] cE.toArray[j] (dF (ds.getD j .bC) (es.getD j .bC)):=λj h1 h2=>by
 have k1:=r.length;have k2:=r2.length;have qK:j<its.length:=by simpa using h1
 have rH:j<cE.length:=by simpa using h2
 have g1:xs[j]?=aS (xs.getD j .bC):=by rw[Aa2,Aa3 (by omega)];rfl
 have g2:ys[j]?=aS (ys.getD j .bC):=by rw[Aa2,Aa3 (by omega)];rfl
 have d1:ds[j]?=aS (ds.getD j .bC):=by rw[Aa2,Aa3 (by omega)];rfl
 have d2:es[j]?=aS (es.getD j .bC):=by rw[Aa2,Aa3 (by omega)];rfl
 obtain⟨u,e1,ru⟩:=r.get g1;obtain⟨u2,e2,xy⟩:=r2.get g2;have q1:its.toArray[j]=u:=by rw[Aa3 qK] at e1;simpa using Ae1.inj e1
 have q2:cE.toArray[j]=u2:=by rw[Aa3 rH] at e2;simpa using Ae1.inj e2
 rw[q1,q2];exact ih (el j _ _ g1 d1) (jL j _ _ g2 d2) ru xy
theorem CU(A:An2):A.in1.units=A.units+1:=rfl
theorem Ld(I:Inv X bu σ H s):∀{n:Nat} {A:An2} {v u:V} {d e:Dt} {rv ru:Value},Rp H F n v d->Rp H G n u e->RelV v rv->RelV u ru->A.units+n<cLine->At8 A s rv ru (dF d e):=by
 intro n;have sc:∀{n m:Nat} {A:An2} {v u:V} {d e:Dt} {rv ru:Value},Rp H F n v d->Rp H G m u e->(Fb d||Cy d)=false->(Fb e||Cy e)=false->RelV v rv->RelV u ru->At8 A s rv ru (dF d e):=by
  intro n m A v u d e rv ru r r2 n1 n2 rr fL;cases r with
  | bC=>
   cases rr;cases r2 with
   | bC=>
    cases fL;simp only[dF];exact(show At8 A s Aj8 Aj8 true from Ax7 _)
   | bl x2=>
    cases fL;simp only[dF];exact AI5 _
   | int x2=>
    obtain⟨t2,rfl⟩:=fL;simp only[dF];exact AJ3 _ _
   | str x2=>
    obtain⟨t2,rfl⟩:=fL;simp only[dF];exact AJ4 _ _
   | lst _ _ _ _ _=>cases n2
   | tup _ _ _ _=>cases n2
  | bl x1=>
   cases rr;cases r2 with
   | bC=>
    cases fL;simp only[dF];exact AI6 _
   | bl x2=>
    cases fL;simp only[dF];exact AI7 _ _
   | int x2=>
    obtain⟨t2,rfl⟩:=fL;simp only[dF];exact AJ5 _ _ _
   | str x2=>
    obtain⟨t2,rfl⟩:=fL;simp only[dF];exact AJ6 _ _ _
   | lst _ _ _ _ _=>cases n2
   | tup _ _ _ _=>cases n2
  | int x1=>
   obtain⟨t1,rfl⟩:=rr;cases r2 with
   | bC=>
    cases fL;simp only[dF];exact AJ7 _ _
   | bl x2=>
    cases fL;simp only[dF];exact AJ8 _ _ _
   | int x2=>
    obtain⟨t2,rfl⟩:=fL;simp only[dF];exact SeqAt.EqAt.int_int _ _ _ _
   | str x2=>
    obtain⟨t2,rfl⟩:=fL;simp only[dF];exact AB1 _ _ _ _
   | lst _ _ _ _ _=>cases n2
   | tup _ _ _ _=>cases n2
  | str x1=>
   obtain⟨t1,rfl⟩:=rr;cases r2 with
   | bC=>
    cases fL;simp only[dF];exact AJ9 _ _
   | bl x2=>
    cases fL;simp only[dF];exact AK0 _ _ _
   | int x2=>
    obtain⟨t2,rfl⟩:=fL;simp only[dF];exact AB2 _ _ _ _
   | str x2=>
    obtain⟨t2,rfl⟩:=fL;simp only[dF];exact SeqAt.EqAt.str_str _ _ _ _
   | lst _ _ _ _ _=>cases n2
   | tup _ _ _ _=>cases n2
  | lst _ _ _ _ _=>cases n1
  | tup _ _ _ _=>cases n1
 induction n with
 | zero=>
  intro A v u d e rv ru r r2 rr fL hu;exact sc r r2 (by cases r <;> rfl) (by cases r2 <;> rfl) rr fL
 | succ n ih=>
  intro A v u d e rv ru r r2 rr fL hu;have ly:A.units<cLine:=by omega
  cases h1:(Fb d||Cy d) with
  | false=>
   cases h2:(Fb e||Cy e) with
   | false=>exact sc r r2 h1 h2 rr fL
   | true=>
    cases r2 with
    | @lst _ b ys es q2 f2 b2 l2 jL=>
     obtain rfl:ru=aY b:=fL;obtain⟨cE,jK,fT,_⟩:=I.list (bx.of q2);cases r with
     | bC=>cases rr;simp only[dF];exact SeqAt.EqAt.none_list fT.isList ly
     | bl x1=>cases rr;simp only[dF];exact SeqAt.EqAt.bool_list _ fT.isList ly
     | int x1=>obtain⟨t,rfl⟩:=rr;simp only[dF];exact SeqAt.EqAt.int_list _ _ fT.isList ly
     | str x1=>obtain⟨t,rfl⟩:=rr;simp only[dF];exact SeqAt.EqAt.str_list _ _ fT.isList ly
     | lst _ _ _ _ _=>cases h1
     | tup _ _ _ _=>cases h1
    | @tup _ b ys es q2 b2 l2 jL=>
     obtain rfl:ru=aY b:=fL;obtain⟨cE,jK,fT,_⟩:=I.tuple (dj.of q2);have fT:s.heap.IsTuple b cE.toArray:=fT;cases r with
     | bC=>cases rr;simp only[dF];exact SeqAt.EqAt.none_tuple fT ly
     | bl x1=>cases rr;simp only[dF];exact SeqAt.EqAt.bool_tuple _ fT ly
     | int x1=>obtain⟨t,rfl⟩:=rr;simp only[dF];exact SeqAt.EqAt.int_tuple _ _ fT ly
     | str x1=>obtain⟨t,rfl⟩:=rr;simp only[dF];exact SeqAt.EqAt.str_tuple _ _ fT ly
     | lst _ _ _ _ _=>cases h1
     | tup _ _ _ _=>cases h1
    | _=>cases h2
  | true=>
   cases r with
   | @lst _ a xs ds q1 f1 b1 l1 pW=>
    obtain rfl:rv=aY a:=rr;obtain⟨its,mT,pl,_⟩:=I.list (bx.of q1);have k1:=mT.length;cases r2 with
    | @lst _ b ys es q2 f2 b2 l2 jL=>
     obtain rfl:ru=aY b:=fL;obtain⟨cE,jK,fT,_⟩:=I.list (bx.of q2);have k2:=jK.length;by_cases xG:a=b
     .subst xG;have e:=(Rp.lst (n:=n) q1 f1 b1 l1 pW).inj (Rp.lst (n:=n) q2 f2 b2 l2 jL);rw[e,Fn];exact Ax7 _
     .refine SeqAt.EqAt.of_refs xG ?_;simp only[dF];by_cases hl:ds.length=es.length
      .rw[Dn hl];have q:=SeqAt.RcAt.lists (A:=A) (e:=λi=>dF (ds.getD i .bC) (es.getD i .bC)) pl.isList fT.isList (by simp;omega) ly (FK mT jK l1 l2 pW jL λr r2 rr fL=>ih r r2 rr fL (by rw[CU];omega));rw[show its.toArray.size=ds.length by simp;omega] at q;exact q
      .rw[Dg hl];exact SeqAt.RcAt.lists_lengths pl.isList fT.isList (by simp;omega) ly
    | @tup _ b ys es q2 b2 l2 jL=>
     obtain rfl:ru=aY b:=fL;obtain⟨cE,jK,fT,_⟩:=I.tuple (dj.of q2);simp only[dF];exact SeqAt.EqAt.list_tuple pl.isList (show s.heap.IsTuple b cE.toArray from fT) ly
    | bC=>cases fL;simp only[dF];exact SeqAt.EqAt.list_none pl.isList ly
    | bl x1=>cases fL;simp only[dF];exact SeqAt.EqAt.list_bool _ pl.isList ly
    | int x1=>obtain⟨t,rfl⟩:=fL;simp only[dF];exact SeqAt.EqAt.list_int _ _ pl.isList ly
    | str x1=>obtain⟨t,rfl⟩:=fL;simp only[dF];exact SeqAt.EqAt.list_str _ _ pl.isList ly
   | @tup _ a xs ds q1 b1 l1 pW=>
    obtain rfl:rv=aY a:=rr;obtain⟨its,mT,pl,_⟩:=I.tuple (dj.of q1);have pl:s.heap.IsTuple a its.toArray:=pl;have k1:=mT.length;cases r2 with
    | @tup _ b ys es q2 b2 l2 jL=>
     obtain rfl:ru=aY b:=fL;obtain⟨cE,jK,fT,_⟩:=I.tuple (dj.of q2);have fT:s.heap.IsTuple b cE.toArray:=fT;have k2:=jK.length;by_cases xG:a=b
     .subst xG;have e:=(Rp.tup (n:=n) (F:=F) q1 b1 l1 pW).inj (Rp.tup (n:=n) (F:=G) q2 b2 l2 jL);rw[e,Fn];exact Ax7 _
     .refine SeqAt.EqAt.of_refs xG ?_;simp only[dF];have q:=SeqAt.RcAt.tuples (A:=A) (e:=λi=>dF (ds.getD i .bC) (es.getD i .bC)) pl fT ly (FK mT jK l1 l2 pW jL λr r2 rr fL=>ih r r2 rr fL (by rw[CU];omega));have e1:its.toArray.size=ds.length:=by simp;omega
      have e2:cE.toArray.size=es.length:=by simp;omega
      rw[e1,e2] at q;by_cases hl:ds.length=es.length
      .rw[Dn hl];rw[<-hl,Nat.min_self,beq_self_eq_true,AD8] at q;exact q
      .rw[Dg hl];rw[beq_eq_false_iff_ne.mpr hl,Ag8] at q;exact q
    | @lst _ b ys es q2 f2 b2 l2 jL=>
     obtain rfl:ru=aY b:=fL;obtain⟨cE,jK,fT,_⟩:=I.list (bx.of q2);simp only[dF];exact SeqAt.EqAt.tuple_list pl fT.isList ly
    | bC=>cases fL;simp only[dF];exact SeqAt.EqAt.tuple_none pl ly
    | bl x1=>cases fL;simp only[dF];exact SeqAt.EqAt.tuple_bool _ pl ly
    | int x1=>obtain⟨t,rfl⟩:=fL;simp only[dF];exact SeqAt.EqAt.tuple_int _ _ pl ly
    | str x1=>obtain⟨t,rfl⟩:=fL;simp only[dF];exact SeqAt.EqAt.tuple_str _ _ pl ly
   | _=>cases h1
noncomputable def Ub(neg:Bool):R2:=λx y H Q=>∃(n:Nat) (d e:Dt),n<=30/\Rp H FT n x d/\Rp H FT n y e/\(Fb d&&Fb e||Cy d&&Cy e)=true/\Q (.bl (if neg then !dF d e else dF d e)) H
theorem VC(hu:X.A.units+64<cLine):gf X (Ak3 .Eq) (Ub false):=by
 intro bu s σ H x y v u Q I rx ry h;obtain⟨n,d,e,hn,r,r2,hs,q⟩:=h;cases r with
 | @lst m a xs ds q1 f1 b1 l1 pW=>
  cases r2 with
  | @lst _ b ys es q2 f2 b2 l2 jL=>
   obtain rfl:v=aY a:=rx;obtain rfl:u=aY b:=ry;obtain⟨its,mT,pl,_⟩:=I.list (bx.of q1);obtain⟨cE,jK,fT,_⟩:=I.list (bx.of q2);have k1:=mT.length;have k2:=jK.length;have q:Q (.bl (Ff ds es)) H:=by
    have q:=q;unfold dF at q;exact q
   by_cases hl:ds.length=es.length
   .refine SeqAt.eq_listAt (e:=λi=>dF (ds.getD i .bC) (es.getD i .bC)) pl.isList fT.isList (by simp;omega) (by omega) (FK mT jK l1 l2 pW jL λr r2 rr fL=>Ld I r r2 rr fL (by rw[CU];omega)) ⟨.bl _,H,I,rfl,?_⟩;rw[show its.toArray.size=ds.length by simp;omega, <-Dn hl];exact q
   .refine SeqAt.eq_list_lengthsAt pl.isList fT.isList (by simp;omega) (by omega) ⟨.bl _,H,I,rfl,?_⟩;rw[<-Dg hl];exact q
  | _=>cases hs
 | @tup m a xs ds q1 b1 l1 pW=>
  cases r2 with
  | @tup _ b ys es q2 b2 l2 jL=>
   obtain rfl:v=aY a:=rx;obtain rfl:u=aY b:=ry;obtain⟨its,mT,pl,_⟩:=I.tuple (dj.of q1);obtain⟨cE,jK,fT,_⟩:=I.tuple (dj.of q2);have k1:=mT.length;have k2:=jK.length;have q:Q (.bl (Ff ds es)) H:=by
    have q:=q;unfold dF at q;exact q
   refine SeqAt.eq_tupleAt (e:=λi=>dF (ds.getD i .bC) (es.getD i .bC)) (show s.heap.IsTuple a its.toArray from pl) (show s.heap.IsTuple b cE.toArray from fT) (by omega) (FK mT jK l1 l2 pW jL λr r2 rr fL=>Ld I r r2 rr fL (by rw[CU];omega)) ⟨.bl _,H,I,rfl,?_⟩;have e1:its.toArray.size=ds.length:=by simp;omega
   have e2:cE.toArray.size=es.length:=by simp;omega
   rw[e1,e2];by_cases hl:ds.length=es.length
   .rw[<-hl,Nat.min_self,beq_self_eq_true,AD8, <-Dn hl];exact q
   .rw[beq_eq_false_iff_ne.mpr hl,Ag8, <-Dg hl];exact q
  | _=>cases hs
 | _=>cases hs
theorem Q2(hu:X.A.units+64<cLine):gf X (Ak3 .NotEq) (Ub true):=by
 intro bu s σ H x y v u Q I rx ry h;obtain⟨n,d,e,hn,r,r2,hs,q⟩:=h;cases r with
 | @lst m a xs ds q1 f1 b1 l1 pW=>
  cases r2 with
  | @lst _ b ys es q2 f2 b2 l2 jL=>
   obtain rfl:v=aY a:=rx;obtain rfl:u=aY b:=ry;obtain⟨its,mT,pl,_⟩:=I.list (bx.of q1);obtain⟨cE,jK,fT,_⟩:=I.list (bx.of q2);have k1:=mT.length;have k2:=jK.length;have q:Q (.bl (!Ff ds es)) H:=by
    have q:=q;unfold dF at q;exact q
   by_cases hl:ds.length=es.length
   .refine AI9 (e:=λi=>dF (ds.getD i .bC) (es.getD i .bC)) pl.isList fT.isList (by simp;omega) (by omega) (FK mT jK l1 l2 pW jL λr r2 rr fL=>Ld I r r2 rr fL (by rw[CU];omega)) _ _ _ _ ⟨.bl _,H,I,rfl,?_⟩;rw[show its.toArray.size=ds.length by simp;omega, <-Dn hl];exact q
   .refine AE0 pl.isList fT.isList (by simp;omega) (by omega) _ _ _ _ ⟨.bl _,H,I,rfl,?_⟩;rw[Dg hl] at q;exact q
  | _=>cases hs
 | @tup m a xs ds q1 b1 l1 pW=>
  cases r2 with
  | @tup _ b ys es q2 b2 l2 jL=>
   obtain rfl:v=aY a:=rx;obtain rfl:u=aY b:=ry;obtain⟨its,mT,pl,_⟩:=I.tuple (dj.of q1);obtain⟨cE,jK,fT,_⟩:=I.tuple (dj.of q2);have k1:=mT.length;have k2:=jK.length;have q:Q (.bl (!Ff ds es)) H:=by
    have q:=q;unfold dF at q;exact q
   refine SeqAt.RcNeAt.tuples (e:=λi=>dF (ds.getD i .bC) (es.getD i .bC)) (show s.heap.IsTuple a its.toArray from pl) (show s.heap.IsTuple b cE.toArray from fT) (by omega) (FK mT jK l1 l2 pW jL λr r2 rr fL=>Ld I r r2 rr fL (by rw[CU];omega)) _ _ _ _ ⟨.bl _,H,I,rfl,?_⟩;have e1:its.toArray.size=ds.length:=by simp;omega
   have e2:cE.toArray.size=es.length:=by simp;omega
   rw[e1,e2];by_cases hl:ds.length=es.length
   .rw[<-hl,Nat.min_self,beq_self_eq_true,AD8, <-Dn hl];exact q
   .rw[beq_eq_false_iff_ne.mpr hl,Ag8, <-Dg hl];exact q
  | _=>cases hs
 | _=>cases hs
end
end L2
namespace L2
open PySem PySem.Spec PyProof.Rows
noncomputable abbrev dN(n:Nat):Dt:= .int (n:Nat)
noncomputable def dL(ns:List Nat):Dt:= .lst (ns.map dN)
noncomputable def dT(ns:List Nat):Dt:= .tup (ns.map dN)
noncomputable def dS(zs:List Str):Dt:= .lst (zs.map .str)
noncomputable def uP(zs:List Str):Dt:= .tup (zs.map .str)
noncomputable def qM(ls:List (List Nat)):Dt:= .lst (ls.map dL)
noncomputable def zA(ls:List (List Nat)):Dt:= .tup (ls.map dT)
section
variable {v:V}
theorem GE{α:Type}{f:α->V}{g:α->Dt}(uniq:∀(a:α) (v:V),Rp H F n v (g a)->v=f a){vs:List V}{as:List α}(l:vs.length=(as.map g).length)
  (e:∀(i:Nat) (v:V) (d:Dt),vs[i]?=aS v->(as.map g)[i]?=aS d->Rp H F n v d):vs=as.map f:=by
 refine Af8 (by simpa using l) λi h1 h2=>?_;have h3:i<as.length:=by simpa using h2
 rw[Au0];exact uniq _ _ (e i vs[i] (g as[i]) (by simp[h1]) (by simp[h3]))
theorem Sg(a:Nat)(v:V)(r:Rp H F n v (dN a)):v=nV a:=by cases r;rfl
theorem Sd(a:Str)(v:V)(r:Rp H F n v (.str a)):v= .str a:=by cases r;rfl
theorem Kj(r:Rp H F n v (dL ns)):∃a,v= .ref a/\H a=aS (.lst (ns.map nV))/\F a/\ns.length<=100000:=by
 unfold dL at r;cases r with
 | @lst m a vs _ h f b l e=>
  have q:=GE (f:=nV) (λa v r=>Sg a v r) l e;subst q;exact⟨a,rfl,h,f,by simpa using b⟩
theorem Q5(r:Rp H F n v (dT ns)):∃a,v= .ref a/\H a=aS (.tup (ns.map nV))/\ns.length<=100000:=by
 unfold dT at r;cases r with
 | @tup m a vs _ h b l e=>
  have q:=GE (f:=nV) (λa v r=>Sg a v r) l e;subst q;exact⟨a,rfl,h,by simpa using b⟩
theorem Mw{zs:List Str}(r:Rp H F n v (dS zs)):∃a,v= .ref a/\H a=aS (.lst (zs.map V.str))/\F a/\zs.length<=100000:=by
 unfold dS at r;cases r with
 | @lst m a vs _ h f b l e=>
  have q:=GE (f:=V.str) (λa v r=>Sd a v r) l e;subst q;exact⟨a,rfl,h,f,by simpa using b⟩
theorem Qi{zs:List Str}(r:Rp H F n v (uP zs)):∃a,v= .ref a/\H a=aS (.tup (zs.map V.str))/\zs.length<=100000:=by
 unfold uP at r;cases r with
 | @tup m a vs _ h b l e=>
  have q:=GE (f:=V.str) (λa v r=>Sd a v r) l e;subst q;exact⟨a,rfl,h,by simpa using b⟩
theorem Lx{α:Type}{f:α->V}{g:α->Dt}{as:List α}(k:∀a∈as,Rp H F n (f a) (g a)):∀(i:Nat) (v:V) (d:Dt),(as.map f)[i]?=aS v->(as.map g)[i]?=aS d->Rp H F n v d:=by
 intro i v d h1 h2;rw[Ac1] at h1 h2;cases e:as[i]? with
 | none=>rw[e] at h1;cases h1
 | some a=>
  rw[e] at h1 h2;cases h1;cases h2;exact k a (Ad0 e)
theorem JK(h:H a=aS (.lst (ns.map nV)))(f:F a)(b:ns.length<=100000):Rp H F (n+1) (.ref a) (dL ns):= .lst h f (by simpa using b) (by simp) (Lx λk _=> .int _)
theorem Vu(h:H a=aS (.tup (ns.map nV)))(b:ns.length<=100000):Rp H F (n+1) (.ref a) (dT ns):= .tup h (by simpa using b) (by simp) (Lx λk _=> .int _)
theorem QY{zs:List Str}(h:H a=aS (.lst (zs.map V.str)))(f:F a)(b:zs.length<=100000):Rp H F (n+1) (.ref a) (dS zs):= .lst h f (by simpa using b) (by simp) (Lx λk _=> .str _)
theorem UQ{zs:List Str}(h:H a=aS (.tup (zs.map V.str)))(b:zs.length<=100000):Rp H F (n+1) (.ref a) (uP zs):= .tup h (by simpa using b) (by simp) (Lx λk _=> .str _)
theorem Ey(r:Rp H F n v (.lst ds)):∃m a vs,n=m+1/\v= .ref a/\H a=aS (.lst vs)/\F a/\vs.length=ds.length/\vs.length<=100000/\∀i,i<ds.length->Rp H F m (vs.getD i .bC) (ds.getD i .bC):=by
 cases r with
 | @lst m a vs _ h f b l e=>
  refine⟨m,a,vs,rfl,rfl,h,f,l,b,λi hi=>e i _ _ ?_ ?_⟩
  .rw[Aa2,Aa3 (by omega)];rfl
  .rw[Aa2,Aa3 hi];rfl
theorem ND(r:Rp H F n v (.tup ds)):∃m a vs,n=m+1/\v= .ref a/\H a=aS (.tup vs)/\vs.length=ds.length/\vs.length<=100000/\∀i,i<ds.length->Rp H F m (vs.getD i .bC) (ds.getD i .bC):=by
 cases r with
 | @tup m a vs _ h b l e=>
  refine⟨m,a,vs,rfl,rfl,h,l,b,λi hi=>e i _ _ ?_ ?_⟩
  .rw[Aa2,Aa3 (by omega)];rfl
  .rw[Aa2,Aa3 hi];rfl
theorem getD_map{α β:Type}(f:α->β)(as:List α)(i:Nat)(x:β)(y:α)(h:i<as.length):(as.map f).getD i x=f (as.getD i y):=by simp[Aa2,h]
theorem GV{zs:List Str}(h:i<(zs.map V.str).length):(zs.map V.str).getD i .bC= .str (zs.getD i Ar0):=getD_map V.str zs i .bC Ar0 (by simpa using h)
theorem getD_mem{α:Type}{as:List α}{y:α}(h:i<as.length):as.getD i y∈as:=by
 rw[Aa2,Aa3 h];exact Ah6 h
end
theorem Rp.ins{v:V}{d:Dt}{x dx:Addr}{fs:List (Str×V)}{o:HO}(r:Rp H F n v d)(h:H x=aS (.ins C dx fs)):Rp (L2.upd H x o) F n v d:=by
 induction r with
 | bC=>exact .bC
 | bl b=>exact .bl b
 | int i=>exact .int i
 | str z=>exact .str z
 | @lst n a vs ds q f b l e ih=>
  refine .lst ?_ f b l ih;rw[An (GQ q h (by intro z;cases z))];exact q
 | @tup n a vs ds q b l e ih=>
  refine .tup ?_ b l ih;rw[An (GQ q h (by intro z;cases z))];exact q
noncomputable def pX(x:Addr)(H H':Hp):Prop:=∀b o,H b=aS o->b≠x->H' b=aS o
theorem pX.same(b:pX x H H1)(s:Same H1 H2):pX x H H2:=λa o e n=>s _ _ (b a o e n)
theorem pX.of(s:Same H H1):pX x H H1:=λa o e _=>s _ _ e
theorem pX.put(b:pX x H H1):pX x H (upd H1 x o):=λa u e n=>by rw[An n];exact b a u e n
theorem pX.rp(k:pX x H H')(h:H x=aS (.ins C dx fs))(r:Rp H F n v d):Rp H' F n v d:=by
 induction r with
 | bC=>exact .bC
 | bl b=>exact .bl b
 | int i=>exact .int i
 | str z=>exact .str z
 | @lst n a vs ds q f b l e ih=>exact .lst (k _ _ q (GQ q h (by intro z;cases z))) f b l ih
 | @tup n a vs ds q b l e ih=>exact .tup (k _ _ q (GQ q h (by intro z;cases z))) b l ih
theorem Rp.xH{D t:Addr}(r:Rp H F (n+1) (.ref D) (.lst ds))(hl:H D=aS (.lst ys))(ht:H t=aV):Rp (L2.upd H t (.tup ys)) F (n+1) (.ref t) (.tup ds):=by
 cases r with
 | @lst _ _ vs _ q f b l ee=>
  rw[hl] at q;cases q;exact .tup upd_same b l λi v e h1 h2=>(ee i v e h1 h2).new ht
theorem UV(ls:List (List Nat)):(Ab7 ls.length).map (λi=>dT (ls.getD i []))=ls.map dT:=FB dT ls []
theorem UU(ls:List (List Nat)):(Ab7 ls.length).map (λi=>dL (ls.getD i []))=ls.map dL:=FB dL ls []
theorem Hc{xs:List V}{k:Int}(h:0<=k):FD xs (aS k) aV=xs.drop k.toNat:=by
 unfold FD;have e2:HT.jN xs.length xs.length aV=xs.length:=rfl;rw[e2];have e1:HT.jN xs.length 0 (aS k)=min k.toNat xs.length:=by
  unfold HT.jN;simp only;split <;> omega
 rw[e1];by_cases q:k.toNat<=xs.length
 .rw[Av5 q,Ae6 (by simp)]
 .rw[Az2 (by omega),Ag3 (Aa6 _),Ag3 (by omega)];simp
theorem JB{xs:List V}{k:Int}(h:0<=k):FD xs aV (aS k)=xs.take k.toNat:=by
 unfold FD;have e2:HT.jN xs.length 0 aV=0:=rfl;rw[e2,AI8];have e1:HT.jN xs.length xs.length (aS k)=min k.toNat xs.length:=by
  unfold HT.jN;simp only;split <;> omega
 rw[e1,Nat.sub_zero];by_cases q:k.toNat<=xs.length
 .rw[Av5 q]
 .rw[Az2 (by omega),Ae6 (Aa6 _),Ae6 (by omega)]
section
variable {own:List Str}{fr:List (Str×Nat)}{g:TG}{tl:TE}{D:Ends}{Q:VK}{R:It->Hp->Prop}{ta:TA}
theorem Tc(h:wi σ H λJ H1=>∀D,H1 D=aV->DX J (DW own fr σ) g tc te Q H1 D):G9 wi own fr g tc te σ H Q:=h
theorem Vh(h:wi σ H λJ H1=>∃W:Nat->Nat->St->Hp->Prop,(∃m,W 0 m σ H1)/\∀i m σ H,W i m σ H->
 (J.stop i H/\D.nx σ H)\/(J.go i H/\∃N:St->Hp->Prop,(∀σ' H',N σ' H'->∃m',m'<m/\W (i+1) m' σ' H')/\∀x H',J.jM i H x H'->g x σ H' λσ2 H2=>tb { D with nx:=N,ct:=N,bk:=D.nx } σ2 H2)):Xo wi g tb D σ H:=h
theorem Xz(h:tl σ H λx H1=>∃a,x= .ref a/\(∃xs,bx K H1 a xs)/\R (ud K a) H1):RE K tl σ H R:=h
theorem XT(h:tl σ H λx H1=>∃a,x= .ref a/\(∃xs,dj K H1 a xs)/\R (wZ K a) H1):VD K tl σ H R:=h
theorem Xy(h:te σ H λx H1=>∃z,x= .str z/\R (vS z) H1):XW te σ H R:=h
theorem W9(h:ta σ H λvs H1=>∃a,vs=[.ref a]/\(∃xs,bx K H1 a xs)/\R (uH K a) H1):U2 K ta σ H R:=h
theorem XR(h:ta σ H λvs H1=>∃tp a,vs=[.ref a]/\(∃xs,gZ tp K H1 a xs)/\R (Tf tp K a) H1):RO K ta σ H R:=h
theorem WP(h:ta σ H λvs H1=>∃t1 t2 a b,vs=[.ref a, .ref b]/\(∃xs,gZ t1 K H1 a xs)/\(∃ys,gZ t2 K H1 b ys)/\R (zq t1 t2 K a b) H1):iZs K ta σ H R:=h
theorem Xv(h:ta σ H λvs H1=>∃j:Int,vs=[.int j]/\ -(2 ^ 62)<=j/\j<2 ^ 62/\R (rE 0 j.toNat) H1):UY ta σ H R:=h
theorem XM(h:ta σ H λvs H1=>∃i j:Int,vs=[.int i, .int j]/\(-(2 ^ 62)<=i/\i<2 ^ 62/\ -(2 ^ 62)<=j/\j<2 ^ 62)/\R (rE i (j - i).toNat) H1):UJ ta σ H R:=h
theorem XH(h:ta σ H λvs H1=>∃i j c:Int,vs=[.int i, .int j, .int c]/\(-(2 ^ 40)<=i/\i<2 ^ 40)/\(-(2 ^ 40)<=j/\j<2 ^ 40)/\(-(2 ^ 20)<=c/\c<2 ^ 20)/\c≠0/\R (zw i c (Ai7 i j c).toNat) H1):UN ta σ H R:=h
end
theorem Ea{set:Nat->St->St}{D:Ends}(S:oE J g H0 n set)(Pv:Nat->St->Hp->Prop)(h0:Pv 0 σ H)(hk:∀i σ H',Pv i σ H'->Same H0 H')
  (hs:∀i σ H' H3,i<n->Pv i σ H'->Same H' H3->tb { D with nx:=Pv (i+1),ct:=Pv (i+1),bk:=D.nx } (set i σ) H3) (hd:∀σ H',Pv n σ H'->D.nx σ H'):
  ∃W:Nat->Nat->St->Hp->Prop,(∃m,W 0 m σ H)/\∀i m σ H,W i m σ H->
   (J.stop i H/\D.nx σ H)\/(J.go i H/\∃N:St->Hp->Prop,(∀σ' H',N σ' H'->∃m',m'<m/\W (i+1) m' σ' H')/\∀x H',J.jM i H x H'->g x σ H' λσ2 H2=>tb { D with nx:=N,ct:=N,bk:=D.nx } σ2 H2):=by
 refine⟨λi m σ H'=>m=n - i/\i<=n/\Pv i σ H',⟨n,by simp,Ad4 _,h0⟩,?_⟩;rintro i m σ H1 ⟨rfl,hi,p⟩;by_cases dZ:i<n
 .exact .inr ⟨S.go i H1 dZ (hk _ _ _ p),Pv (i+1),λσ' H' p'=>⟨n - (i+1),by omega,rfl,dZ,p'⟩,λx H' y=>S.jM i σ H1 x H' _ dZ (hk _ _ _ p) y λH3 s3=>hs i σ H1 H3 dZ p s3⟩
 .have e:i=n:=by omega
  subst e;exact .inl ⟨S.stop H1 (hk _ _ _ p),hd σ H1 p⟩
theorem Kz:oE (rE 0 n) (AN i1) H n (λi σ=>σ.set i1 (aS (.int (i:Nat)))):=by
 have:=ME (H:=H) (i1:=i1) (lo:=0) (n:=n);simpa using this
theorem Gp{σ0:St}(h0:σ0[0]?=aS aV):fD (rE 0 n) (AN 0) σ0 H n (λi=>σ0.set 0 (aS (.int (i:Nat)))):=by
 have:=KM (H:=H) (lo:=0) (n:=n) h0;simpa using this
theorem XG{A:Prop}(h:B):if (!true)=true then A else B:=by simpa using h
theorem W5{A:Prop}(h:A):if (!false)=true then A else B:=by simpa using h
theorem K4(h:H a=aS (.tup [v0,v1,v2,v3,v4,v5,v6]))(r0:Rp H F n v0 d0)(r1:Rp H F n v1 d1)(r2:Rp H F n v2 d2)(r3:Rp H F n v3 d3)(r4:Rp H F n v4 d4)(r5:Rp H F n v5 d5)(r6:Rp H F n v6 d6):
  Rp H F (n+1) (.ref a) (.tup [d0,d1,d2,d3,d4,d5,d6]):=by
 refine .tup h (by simp) rfl λi v u h1 h2=>?_
 match i with
 | 0=>cases h1;cases h2;exact r0
 | 1=>cases h1;cases h2;exact r1
 | 2=>cases h1;cases h2;exact r2
 | 3=>cases h1;cases h2;exact r3
 | 4=>cases h1;cases h2;exact r4
 | 5=>cases h1;cases h2;exact r5
 | 6=>cases h1;cases h2;exact r6
 | i+7=>cases h1
theorem C8{α:Type}{xs:List α}(h:xs.length=n+1):∃x ys,xs=x::ys/\ys.length=n:=by
 cases xs with
 | nil=>cases h
 | cons x ys=>exact⟨x,ys,rfl,Nat.succ.inj h⟩
theorem Pd(r:Rp H F n v (.tup [d0,d1,d2,d3,d4,d5,d6])):∃m a v0 v1 v2 v3 v4 v5 v6,n=m+1/\v= .ref a/\H a=aS (.tup [v0,v1,v2,v3,v4,v5,v6])/\
  Rp H F m v0 d0/\Rp H F m v1 d1/\Rp H F m v2 d2/\Rp H F m v3 d3/\Rp H F m v4 d4/\Rp H F m v5 d5/\Rp H F m v6 d6:=by
 cases r with
 | @tup m a vs _ h b l e=>
  replace l:vs.length=7:=l;obtain⟨v0,w0,rfl,l0⟩:=C8 l;obtain⟨v1,w1,rfl,l1⟩:=C8 l0;obtain⟨v2,w2,rfl,l2⟩:=C8 l1;obtain⟨v3,w3,rfl,l3⟩:=C8 l2;obtain⟨v4,w4,rfl,l4⟩:=C8 l3;obtain⟨v5,w5,rfl,l5⟩:=C8 l4;obtain⟨v6,w6,rfl,l6⟩:=C8 l5;cases Au6 l6;exact⟨m,a,v0,v1,v2,v3,v4,v5,v6,rfl,rfl,h,e 0 _ _ rfl rfl,e 1 _ _ rfl rfl,e 2 _ _ rfl rfl,e 3 _ _ rfl rfl,e 4 _ _ rfl rfl,e 5 _ _ rfl rfl,e 6 _ _ rfl rfl⟩
theorem xJ{t u:TS}{D:Ends}(J:St->Hp->Prop)(h1:∀σ' H',J σ' H'->D.nx σ' H')(h2:(∀σ' H',J σ' H'->D.nx σ' H')->Mo c t u D σ H):Mo c t u D σ H:=h2 h1
theorem LI{α:Type}(f:α->List Nat)(xs:List α):Dt.lst (xs.map λx=>dL (f x))=qM (xs.map f):=by unfold qM;rw[Ae2];rfl
theorem Vg{α:Type}(f:α->Nat)(xs:List α):Dt.lst (xs.map λx=>dN (f x))=dL (xs.map f):=by unfold dL;rw[Ae2];rfl
theorem NT{α:Type}(f:α->Str)(xs:List α):Dt.lst (xs.map λx=>Dt.str (f x))=dS (xs.map f):=by unfold dS;rw[Ae2];rfl
end L2
namespace L2
theorem OD{α:Type}{as:List α}{y:α}(h:i<as.length):as.getD i y=as[i]:=by
 rw[Aa2,Aa3 h];rfl
end L2
namespace L2
open PySem PySem.Spec PyProof.Rows
noncomputable def Xg(i j:Int):Prop:=0<j/\j<2 ^ 200
theorem Pm{j:Int}(h0:0<j)(h:j<2 ^ 200):j.natAbs.log2<9000:=by
 have h1:j.natAbs<2 ^ 200:=by omega
 have:=(Nat.log2_lt (show j.natAbs≠0 by omega)).mpr h1;omega
theorem BZ:gf X (Ar2 .FloorDiv) (rI Xg λi j=> .int (i / j)):=xg λi j _ _ _ _ _ hc q=>by
 rw[<-AJ2 i (by have:=hc.1;omega)] at q;exact floordiv_int (by have:=hc.1;omega) q (.inl (PyProof.noPylong_of_log2 (Pm hc.1 hc.2)))
section
variable {e o:br}{ta:TE}{f name:Str}{T id:String}{r:V->List V->Hp->VK->Prop}
theorem Jn(he:PE X e ta)(hb:Ao5 e f X.env (bh e X.env)=bh e X.env)(hK:X.K=K:=by rfl):PE X (.Attribute e f pos) (Wf K ta f):=by
 subst hK;exact Va he hb
theorem Qu(pa:PlainAttrs T)(slot:Slot T name id)(uw:typeOf (.builtin id)=pure (.type "method_descriptor"))(hm:ze X id r)(ho:PE X o to)(hK:X.K=K:=by rfl)
  (kK:Ao5 o name X.env (bh o X.env)=bh o X.env:=by rfl) (kL:(apos.endLine == dU.line)=true:=by rfl):PE X (.Call (.Attribute o name apos) [] [] dU) (V9 K T r to):=by
 subst hK;exact WE pa slot uw hm ho kK kL
theorem Bl(pa:PlainAttrs T)(slot:Slot T name id)(uw:typeOf (.builtin id)=pure (.type "method_descriptor"))(hm:ze X id r)(ho:PE X o to)(ha:PA X (e::es) t)(hK:X.K=K:=by rfl)
  (kK:Ao5 o name X.env (bh o X.env)=bh o X.env:=by rfl)
  (ux:((An9 dU (aZ (e::es) X.env)).all (λx=> !x.1)&&(backToKw dU (Az4 [] X.env)).all (λx=>x.1.isSome)
   && decide ((e::es).length+([]:List Keyword).length+(if ([]:List Keyword).isEmpty then 0 else 1)<30))=true:=by rfl)
  (kL:(apos.endLine == dU.line)=true:=by rfl) (hs:aZ (e::es) X.env=(false,bh e X.env)::aZ es X.env:=by rfl) (oA:(An9 dU (aZ es X.env)).any (·.1)=false:=by rfl):
  PE X (.Call (.Attribute o name apos) (e::es) [] dU) (tBM K T r to t):=by
 subst hK;exact XZ pa slot uw hm ho ha kK ux kL hs oA
end
theorem xK{α:Type}{P:List α->Prop}(h:∀a0,P [a0]):∀us:List α,us.length=1->P us:=λus hl=>match us,hl with | [a0],_=>h a0
theorem xM{α:Type}{P:List α->Prop}(h:∀a0 a1,P [a0,a1]):∀us:List α,us.length=2->P us:=λus hl=>match us,hl with | [a0,a1],_=>h a0 a1
theorem xN{α:Type}{P:List α->Prop}(h:∀a0 a1 a2,P [a0,a1,a2]):∀us:List α,us.length=3->P us:=λus hl=>match us,hl with | [a0,a1,a2],_=>h a0 a1 a2
theorem xO{α:Type}{P:List α->Prop}(h:∀a0 a1 a2 a3,P [a0,a1,a2,a3]):∀us:List α,us.length=4->P us:=λus hl=>match us,hl with | [a0,a1,a2,a3],_=>h a0 a1 a2 a3
theorem xP{α:Type}{P:List α->Prop}(h:∀a0 a1 a2 a3 a4,P [a0,a1,a2,a3,a4]):∀us:List α,us.length=5->P us:=λus hl=>match us,hl with | [a0,a1,a2,a3,a4],_=>h a0 a1 a2 a3 a4
theorem uQ{α:Type}{P:List α->Prop}(h:∀a0 a1 a2 a3 a4 a5,P [a0,a1,a2,a3,a4,a5]):∀us:List α,us.length=6->P us:=λus hl=>match us,hl with | [a0,a1,a2,a3,a4,a5],_=>h a0 a1 a2 a3 a4 a5
theorem xQ{α:Type}{P:List α->Prop}(h:∀a0 a1 a2 a3 a4 a5 a6,P [a0,a1,a2,a3,a4,a5,a6]):∀us:List α,us.length=7->P us:=λus hl=>match us,hl with | [a0,a1,a2,a3,a4,a5,a6],_=>h a0 a1 a2 a3 a4 a5 a6
theorem xR{α:Type}{P:List α->Prop}(h:∀a0 a1 a2 a3 a4 a5 a6 a7,P [a0,a1,a2,a3,a4,a5,a6,a7]):∀us:List α,us.length=8->P us:=λus hl=>match us,hl with | [a0,a1,a2,a3,a4,a5,a6,a7],_=>h a0 a1 a2 a3 a4 a5 a6 a7
theorem xS{α:Type}{P:List α->Prop}(h:∀a0 a1 a2 a3 a4 a5 a6 a7 a8,P [a0,a1,a2,a3,a4,a5,a6,a7,a8]):∀us:List α,us.length=9->P us:=λus hl=>match us,hl with | [a0,a1,a2,a3,a4,a5,a6,a7,a8],_=>h a0 a1 a2 a3 a4 a5 a6 a7 a8
section
variable {fr:List (Str×Nat)}
theorem Ph(hi:PI X (.Name x px) iter wi)
  (ht:∀C ex s H,pT (Bd X scope [x] fr C ex s H) ifs tc) (he:∀C ex s H,PE (Bd X scope [x] fr C ex s H) elt te)
  (hb:EW X.env.scope X.N scope [x] fr=true:=by with_unfolding_all rfl) (hc:X.calm=true:=by rfl)
  (hs:∀x,Am5 iter X.env x=pure x:=by intro _;rfl):PE X (.ListComp elt [⟨.Name x px,iter,ifs,0⟩] scope pos) (G9 wi [x] fr (AN 0) tc te):=
 LR hc (.of hb) hi (λC ex s H=>JJ hb rfl C ex s H) ht he hs
end
theorem Te{xs:List V}{k l:Int}(h:0<=k)(h2:k<=l):FD xs (aS k) (aS l)=(xs.take l.toNat).drop k.toNat:=by
 unfold FD;have e1:HT.jN xs.length 0 (aS k)=min k.toNat xs.length:=by
  unfold HT.jN;simp only;split <;> omega
 have e2:HT.jN xs.length xs.length (aS l)=min l.toNat xs.length:=by
  unfold HT.jN;simp only;split <;> omega
 rw[e1,e2];by_cases q:k.toNat<=xs.length
 .rw[Av5 q];by_cases q2:l.toNat<=xs.length
  .rw[Av5 q2,AJ0]
  .rw[Az2 (by omega),Ae6 (l:=xs) (by omega),Ae6 (by simp)]
 .rw[Ag3 (by omega),Ag3 (by simp;omega)];simp
end L2
namespace HT
open PySem PySem.Spec PyProof.Rows
variable {prog:Program}{w:bg}{E:Value->aT->Prop}{s:aT}
end HT
namespace L2
open PySem PySem.Spec PyProof.Rows
theorem Kv(as bs:List Str):Gz (as.map V.str) (bs.map V.str)=decide (as=bs):=by
 rw[Ad5,gi];unfold Gz;simp only[Ab5,beq_iff_eq,Aa0,Ae0,Ae4];constructor
 .rintro⟨h1,h2⟩;refine Af8 h1 λi ha hb=>?_;have h3:=h2 i ha;rw[GV (by simpa using ha),GV (by simpa using hb)] at h3;have h4:(as.getD i Ar0 == bs.getD i Ar0)=true:=h3;rw[beq_iff_eq,OD ha,OD hb] at h4;exact h4
 .rintro rfl;refine⟨rfl,λi hi=>?_⟩;rw[GV (by simpa using hi)];show (as.getD i Ar0 == as.getD i Ar0)=true;rw[beq_iff_eq]
theorem Cr{as bs:List Str}(c:bx K H l (as.map V.str))(d:bx K H p (bs.map V.str))(h:Q (.bl (decide (as=bs))) H):MW K false (.ref l) (.ref p) H Q:=
 ⟨l,p,_,_,rfl,rfl,c,d,by simp[Bx],by simp[Bx],by rw[Kv];exact h⟩
noncomputable def f2(o:Obj):Option Value:=match o.data with
 | .fields vs=>vs[2]?
 | _=>aV
noncomputable def DK{α:Type}:Sem α->Prop
 | .rule _ k=>DK (k ())
 | .at _ k=>DK (k ())
 | .load _ _ k=>∀o,DK (k o)
 | .update _ _ f k=>(∀o,(f o).dict=o.dict/\f2 (f o)=f2 o)/\DK (k ())
 | .loadIfAlive _ k=>∀o,DK (k o)
 | .point _ k=>DK (k ())
 | .alloc _ k=>∀a,DK (k a)
 | .fresh k=>∀t,DK (k t)
 | .ask k=>∀t,DK (k t)
 | .choose _ _ k=>∀t,DK (k t)
 | .os _ _ k=>∀t,DK (k t)
 | .call .. => False
 | .handled _ k=>∀t,DK (k t)
 | .genState _ k=>∀t,DK (k t)
 | .newGen _ k=>∀t,DK (k t)
 | .resume .. => False
 | .stack k=>∀t,DK (k t)
 | .thread k=>∀t,DK (k t)
 | _=>True
noncomputable def KD(h h':Heap):Prop:=∀(b:Nat) (o:Obj),h.objs[b]?=aS o->∃o',h'.objs[b]?=aS o'/\o'.dict=o.dict/\f2 o'=f2 o
theorem KD.refl(h:Heap):KD h h:=λb o e=>⟨o,e,rfl,rfl⟩
theorem KD.trans(a:KD h h1)(b:KD h1 h2):KD h h2:=λc o e=>by
 obtain⟨o1,e1,d1,c1⟩:=a c o e;obtain⟨o2,e2,d2,c2⟩:=b c o1 e1;exact⟨o2,e2,d2.trans d1,c2.trans c1⟩
theorem SJ(e:h.get? b=aS o):h.objs[b]?=aS o:=by
 unfold Heap.get? at e;split at e
 .cases e
 .exact e
theorem KD.at'(k:KD h h'){o o':Obj}(e:h.get? b=aS o)(e':h'.get? b=aS o'):o'.dict=o.dict/\f2 o'=f2 o:=by
 obtain⟨o1,e1,d1⟩:=k b o (SJ e);rw[SJ e'] at e1;cases e1;exact d1
theorem KD.push(h:Heap)(o:Obj):KD h (h.push o):=λb u e=>by
 refine⟨u,?_,rfl,rfl⟩;show (h.objs.push o)[b]?=aS u;have hb:b<h.objs.size:=(Af3.mp e).1;rw[Array.getElem?_push_lt hb];rw[Array.getElem?_eq_getElem hb] at e;exact e
theorem KD.upd(h:Heap)(a:Addr)(hf:∀o,(f o).dict=o.dict/\f2 (f o)=f2 o):KD h (h.update a f):=λb u e=>by
 have hb:b<h.objs.size:=(Af3.mp e).1;show ∃o',(h.objs.modify a f)[b]?=aS o'/\_;rw[Array.getElem?_modify,e];by_cases q:a=b
 .rw[bS q];exact⟨f u,rfl,hf u⟩
 .rw[bG q];exact⟨u,rfl,rfl,rfl⟩
theorem W0{α:Type}:∀(t:Sem α) (Q:α->Pos->aT->Prop) (E:Value->Pos->aT->Prop) (p:Pos) (s s0:aT),DK t->KD s0.heap s.heap->An5 M Γ t Q E p s->
  An5 M Γ t (λa p s'=>Q a p s'/\KD s0.heap s'.heap) (λa p s'=>E a p s'/\KD s0.heap s'.heap) p s:=by
 intro t
 induction t with
 | pure a=>intro Q E p s s0 _ k h;rw[An5] at h ⊢;exact⟨h,k⟩
 | raise e=>intro Q E p s s0 _ k h;rw[An5] at h ⊢;exact⟨h,k⟩
 | unsupported w=>intro Q E p s s0 _ k h;rw[An5] at h;exact h.elim
 | finish e=>intro Q E p s s0 _ k h;rw[An5] at h;exact h.elim
 | rule t k ih=>intro Q E p s s0 d k h;rw[An5] at h ⊢;exact ih () Q E p s s0 d k h
 | «at» t k ih=>intro Q E p s s0 d k h;rw[An5] at h ⊢;exact ih () Q E _ s s0 d k h
 | load a part k ih=>
  intro Q E p s s0 d k h;rw[An5] at h ⊢;obtain⟨o,e,h⟩:=h;exact⟨o,e,ih o Q E p s s0 (d o) k h⟩
 | update a part f k ih=>
  intro Q E p s s0 d k h;rw[An5] at h ⊢;exact⟨h.1,ih () Q E p _ s0 d.2 (k.trans (KD.upd s.heap a d.1)) h.2⟩
 | alloc o k ih=>intro Q E p s s0 d k h;rw[An5] at h ⊢;exact ih _ Q E p _ s0 (d _) (k.trans (KD.push _ _)) h
 | loadIfAlive a k ih=>intro Q E p s s0 d k h;rw[An5] at h ⊢;exact ih _ Q E p _ s0 (d _) k h
 | point l k ih=>intro Q E p s s0 d k h;rw[An5] at h ⊢;exact ih _ Q E p _ s0 d k h
 | register a k ih=>intro Q E p s s0 d k h;rw[An5] at h;exact h.elim
 | fresh k ih=>intro Q E p s s0 d k h;rw[An5] at h ⊢;exact ih _ Q E p _ s0 (d _) k h
 | ask k ih=>intro Q E p s s0 d k h;rw[An5] at h ⊢;exact ih _ Q E p _ s0 (d _) k h
 | choose a n k ih=>intro Q E p s s0 d k h;rw[An5] at h ⊢;exact⟨h.1,ih _ Q E p _ s0 (d _) k h.2⟩
 | os a n k ih=>intro Q E p s s0 d k h;rw[An5] at h ⊢;exact ih _ Q E p _ s0 (d _) k h
 | call c a b l k ih=>intro Q E p s s0 d k h;exact d.elim
 | handled a k ih=>intro Q E p s s0 d k h;rw[An5] at h ⊢;exact ih _ Q E p _ s0 (d _) k h
 | newGen c k ih=>intro Q E p s s0 d k h;rw[An5] at h ⊢;exact ih _ Q E p _ s0 (d _) k h
 | genState g k ih=>
  intro Q E p s s0 d k h;rw[An5] at h ⊢;obtain⟨st,e,h⟩:=h;exact⟨st,e,ih _ Q E p s s0 (d _) k h⟩
 | resume g r l k ih=>intro Q E p s s0 d k h;exact d.elim
 | yield v g l k ih=>intro Q E p s s0 d k h;rw[An5] at h;exact h.elim
 | stack k ih=>intro Q E p s s0 d k h;rw[An5] at h ⊢;exact ih _ Q E p _ s0 (d _) k h
 | fork c k ih=>intro Q E p s s0 d k h;rw[An5] at h;exact h.elim
 | thread k ih=>intro Q E p s s0 d k h;rw[An5] at h ⊢;exact ih _ Q E p _ s0 (d _) k h
 | await a t b l k ih=>intro Q E p s s0 d k h;rw[An5] at h;exact h.elim
theorem B6{α:Type}{t:Sem α}{Q:α->aT->Prop}{s:aT}(d:DK t)(h:aW M A t Q E s):aW M A t (λa s'=>Q a s'/\KD s.heap s'.heap) (λe s'=>E e s'/\KD s.heap s'.heap) s:=
 λΓ p hΓ=>W0 t _ _ p s s d (KD.refl _) (h Γ p hΓ)
theorem DK.bind{α β:Type}{f:α->Sem β}:∀{t:Sem α},DK t->(∀a,DK (f a))->DK (t >>= f):=by
 intro t;show _->_->DK (Sem.bind t f)
 induction t with
 | pure a=>intro _ h;exact h a
 | raise e=>intro _ _;trivial
 | unsupported w=>intro _ _;trivial
 | finish e=>intro _ _;trivial
 | rule t k ih=>intro d h;exact ih () d h
 | «at» t k ih=>intro d h;exact ih () d h
 | load a part k ih=>intro d h o;exact ih o (d o) h
 | update a part f k ih=>intro d h;exact⟨d.1,ih () d.2 h⟩
 | alloc o k ih=>intro d h a;exact ih a (d a) h
 | loadIfAlive a k ih=>intro d h o;exact ih o (d o) h
 | point l k ih=>intro d h;exact ih () d h
 | register a k ih=>intro _ _;trivial
 | fresh k ih=>intro d h o;exact ih o (d o) h
 | ask k ih=>intro d h o;exact ih o (d o) h
 | choose a n k ih=>intro d h o;exact ih o (d o) h
 | os a n k ih=>intro d h o;exact ih o (d o) h
 | call c a b l k ih=>intro d h;exact d.elim
 | handled a k ih=>intro d h o;exact ih o (d o) h
 | newGen c k ih=>intro d h o;exact ih o (d o) h
 | genState g k ih=>intro d h o;exact ih o (d o) h
 | resume g r l k ih=>intro d h;exact d.elim
 | yield v g l k ih=>intro _ _;trivial
 | stack k ih=>intro d h o;exact ih o (d o) h
 | fork c k ih=>intro _ _;trivial
 | thread k ih=>intro d h o;exact ih o (d o) h
 | await a t b l k ih=>intro _ _;trivial
theorem Bc{α:Type}(a:α):DK (pure a:Sem α):=trivial
theorem DQ{α:Type}(w:String):DK (unsupported w:Sem α):=trivial
theorem Le(a:Addr):DK (load a):=λ_=>trivial
theorem Nq(v:Value):DK (fieldsOf v):=by
 unfold fieldsOf;split
 .refine DK.bind (Le _) λo=>?_;split
  .exact Bc _
  .exact DQ _
 .exact DQ _
theorem G0(v:Value)(i:Nat):DK (field v i):=by
 unfold field;refine DK.bind (Nq v) λvs=>?_;split
 .exact Bc _
 .exact DQ _
theorem Jg(i:Nat)(x:Value)(hi:i≠2)(o:Obj):(Ak2 (·.setIfInBounds i x) o).dict=o.dict/\f2 (Ak2 (·.setIfInBounds i x) o)=f2 o:=by
 unfold Ak2;split
 .exact⟨rfl,Array.getElem?_setIfInBounds_ne hi⟩
 .exact⟨rfl,rfl⟩
theorem KC(a:Addr)(h:∀o,(f o).dict=o.dict/\f2 (f o)=f2 o):DK (update a f):=⟨h,trivial⟩
theorem E3(v:Value)(i:Nat)(x:Value)(hi:i≠2:=by decide):DK (setField v i x):=by
 unfold setField;split
 .unfold updateField;refine DK.bind (Le _) λo=>?_;split
  .split
   .exact KC _ (Jg _ _ hi)
   .exact DQ _
  .exact DQ _
 .exact DQ _
theorem JN:DK (stack):=λ_=>trivial
theorem E5{α:Type}[Decidable c]{x y:Sem α}(hx:DK x)(hy:DK y):DK (if c then x else y):=by
 split
 .exact hx
 .exact hy
theorem B1(e:Value)(f:Option Addr):DK (Aq4 e f):=by
 unfold Aq4;refine DK.bind (G0 _ _) λtb=>?_;exact E5 (E3 _ _ _) (Bc _)
theorem Pu(env:Env)(bw:List Env):DK (behindIsImport env bw):=by
 unfold behindIsImport;refine E5 (Bc _) (E5 (Bc _) ?_);exact DK.bind (G0 _ _) λ_=>Bc _
theorem UA(env:Env)(i:Bool)(l:List Env):DK (keptBack env i l):=by
 unfold keptBack;split
 .refine E5 (Bc _) ?_;unfold underTheClaimsCaller;exact DK.bind (DK.bind JN λ_=>Bc _) λ_=>Bc _
 .exact Bc _
theorem Nu:∀l:List Env,DK (readyFrames l)
 | []=>trivial
 | env::bw=>by
  unfold readyFrames;split
  .refine DK.bind (Le _) λo=>?_;refine E5 (Bc _) ?_;refine DK.bind (Pu _ _) λ_=>DK.bind (UA _ _ _) λ_=>DK.bind (KC _ λ_=>⟨rfl,rfl⟩) λ_=>Nu bw
  .exact DQ _
theorem N5(env:Env):DK (PySem.frameOf env):=by
 unfold PySem.frameOf;refine DK.bind ?_ λ_=>DK.bind ?_ λo=>?_
 .unfold frameEnvs;exact DK.bind JN λ_=>Bc _
 .unfold frameObject;split
  .exact Bc _
  .exact DK.bind (Nu _) λ_=>Bc _
 .split
  .exact Bc _
  .exact DQ _
theorem LH(ty:String)(vs:List Value):DK (newFields ty vs):=by
 unfold newFields newObj;have hj:DK (newObjAsIs (.type ty) (.fields vs.toArray)):=by
  unfold newObjAsIs;exact λ_=>trivial
 exact E5 (DK.bind (DQ _) λ_=>hj) hj
theorem QQ(f:Addr)(b:Bool):DK (entryPlaceOf f b):=by
 unfold entryPlaceOf;refine DK.bind JN λ_=>?_;split
 .exact Bc _
 .exact Bc _
theorem LW(e:Value)(env:Env):DK (Ao9 e env):=by
 unfold Ao9;split
 .rename_i f _
  refine DK.bind (G0 _ _) λhead=>?_;have hj:DK (do
   let fr <-PySem.frameOf env
   let pl <-entryPlaceOf f (head != Aj8)
   let b <-EntryCells.newEntry head fr Aj8 (Ay6 f) Aj8 pl
   setField e 1 b):=DK.bind (N5 env) λ_=>DK.bind (QQ _ _) λ_=>DK.bind (LH _ _) λ_=>E3 _ _ _
  refine E5 (DK.bind (G0 _ _) λ_=>E5 (Bc _) (DK.bind (E3 _ _ _) λ_=>hj)) hj
 .exact DQ _
theorem Gr(env:Env)(e:Value):DK (AC8 env e):=by
 unfold AC8;exact DK.bind (LW _ _) λ_=>B1 _ _
section
variable {M:Az3}{E:Value->aT->Prop}{s:aT}
theorem NJ{e:Addr}{Q:Unit->aT->Prop}(kC:A.frames=aS (env::bw))(hf:env.frame=aS L)(hfl:Ao1 base (env::bw) e cls a0 s.heap)
  (hQ:∀h',Ao1 base bw e cls a0 h'->s.heap.UpToSlots h'->KD s.heap h'->Q () { s with heap:=h' }):aW M A (AC8 env (.ref e)) Q E s:=
 Ac7 (B6 (Gr env (.ref e)) (wpAny_leaves_onW (Q:=λ_ s'=>∃h',s'={ s with heap:=h' }/\Ao1 base bw e cls a0 h'/\s.heap.UpToSlots h') kC hf hfl λh' a b=>⟨h',rfl,a,b⟩))
  (λ_ _ ⟨⟨h',e,a,b⟩,k⟩=>by subst e;exact hQ h' a b k) λ_ _ z=>z.1
theorem Hu{e:Addr}{Q:Unit->aT->Prop}(kC:A.frames=aS (env::bw))(hf:env.frame=aS L)(hfl:Ao1 base (env::bw) e cls a0 s.heap)
  (hQ:∀h',Aq5 base (env::bw) e cls a0 L h'->s.heap.UpToSlots h'->KD s.heap h'->Q () { s with heap:=h' }):aW M A (Ao9 (.ref e) env) Q E s:=
 Ac7 (B6 (LW (.ref e) env) (wpAny_looks_onW (Q:=λ_ s'=>∃h',s'={ s with heap:=h' }/\Aq5 base (env::bw) e cls a0 L h'/\s.heap.UpToSlots h') kC hf hfl λh' a b=>⟨h',rfl,a,b⟩))
  (λ_ _ ⟨⟨h',e,a,b⟩,k⟩=>by subst e;exact hQ h' a b k) λ_ _ z=>z.1
theorem SE{l:List Env}{e:Addr}{Q:Unit->aT->Prop}(hh:Aq5 base l e cls a0 L s.heap)
  (hQ:∀h',Ao1 base l e cls a0 h'->s.heap.UpToSlots h'->KD s.heap h'->Q () { s with heap:=h' }):aW M A (Aq4 (.ref e) aV) Q E s:=
 Ac7 (B6 (B1 (.ref e) aV) (wpAny_landsW (Q:=λ_ s'=>∃h',s'={ s with heap:=h' }/\Ao1 base l e cls a0 h'/\s.heap.UpToSlots h') hh λh' a b=>⟨h',rfl,a,b⟩))
  (λ_ _ ⟨⟨h',e,a,b⟩,k⟩=>by subst e;exact hQ h' a b k) λ_ _ z=>z.1
theorem OB{l:List Env}{e:Addr}{Q:Unit->aT->Prop}(hkb:base.StaysIn s.heap)(hl:s.heap.FunFrames base l)(ht:s.heap.TracedAtW base e cls a0 fl)
  (h:∀h',base.StaysIn h'->h'.FunFrames base l->h'.TracedW base e cls a0->(∀b o,s.heap.get? b=aS o->(∀vs,o.data≠ .fields vs)->h'.get? b=aS o)->KD s.heap h'->Q () { s with heap:=h' }):
  aW M A (Aq4 (.ref e) aV) Q E s:=
 Ac7 (B6 (B1 (.ref e) aV) (wpAny_setFlight_noneW (Q:=λ_ s'=>∃h',s'={ s with heap:=h' }/\base.StaysIn h'/\h'.FunFrames base l/\h'.TracedW base e cls a0/\∀b o,s.heap.get? b=aS o->(∀vs,o.data≠ .fields vs)->h'.get? b=aS o) hkb hl ht λh' a b c d=>⟨h',rfl,a,b,c,d⟩))
  (λ_ _ ⟨⟨h',e,a,b,c,d⟩,k⟩=>by subst e;exact h h' a b c d k) λ_ _ z=>z.1
noncomputable def xT(H:Hp)(od:Option Addr):Prop:=∃dx o,od=aS dx/\H dx=aS o/\∀(P:Program) (w:bg) (H:Hp) (h:Heap),bK P w H h dx o->∃mA u,h.Ns1 dx mA/\mA "row"=aS u
noncomputable def eF(H:Hp)(h:Heap)(a:Addr)(od:Option Addr):Prop:=∃o,h.get? a=aS o/\o.dict=od/\(f2 o=aS .none\/xT H od)
theorem eF.on(x:eF H h a od)(k:KD h h')(t:∃o,h'.get? a=aS o):eF H h' a od:=by
 obtain⟨o,e,d,c⟩:=x;obtain⟨o',e'⟩:=t;obtain⟨k1,k2⟩:=k.at' e e';exact⟨o',e',k1.trans d,c.imp k2.trans id⟩
end
theorem fM.on(x:fM P w H h)(k:∀b u,H b≠aV->h.get? b=aS u->h'.get? b=aS u):fM P w H h':=λa o e=>
 (x a o e).kc (λb u hb q=>k b u (by
  rcases hb with rfl | hb
  .rw[e];exact λz=>by cases z
  .rw[hb];exact λz=>by cases z) q) (λ_ q=>q) λ_ _ q=>q
theorem FG(x:bK P w H h a o):∃u,h.get? a=aS u:=by
 cases o with
 | lst xs=>obtain⟨_,_,_,_,e⟩:=x;exact⟨_,e⟩
 | tup xs=>obtain⟨_,_,_,o,e,_⟩:=x;exact⟨_,e⟩
 | dK bN=>obtain⟨_,_,_,_,o,_,_,e,_⟩:=x;exact⟨_,e⟩
 | dT bN=>obtain⟨_,_,_,_,o,_,_,e,_⟩:=x;exact⟨_,e⟩
 | set S n=>obtain⟨o,_,_,_,e,_⟩:=x;exact⟨_,e⟩
 | ins C dx fs=>obtain⟨_,_,_,e,_⟩:=x;exact⟨_,e⟩
 | own y=>exact x
 | xd fs=>obtain⟨_,⟨_,_,_,e,_⟩,_⟩:=x;exact⟨_,e⟩
 | yU lo hi=>obtain⟨_,_,_,e⟩:=x;exact⟨_,e⟩
 | mG ob u=>obtain⟨e,_⟩:=x;exact⟨_,e⟩
 | ko ps=>exact⟨_,(show h.get? a=aS _ from x)⟩
 | met f y=>exact⟨_,(show h.get? a=aS _ from x)⟩
 | ext φ=>obtain⟨_,e,_⟩:=x;exact e
noncomputable def XY(bw:List Env)(s:aT)(H':Hp)(a C t:Addr)(s':aT):Prop:=
 ∃B:Heap,B.FlyingW bw a (.ref C) (.ref t) s'.heap/\∀b,(H' b≠aV\/∃o,s.heap.get? b=aS o)->b∉cA bw->∀o,s'.heap.get? b=aS o->B.get? b=aS o
noncomputable def cW(P:Program)(w:bg):qB:=λbw H s E e s'=>
 ∃a C t od H',e= .ref a/\s'.os=s.os/\Av9 s'.gens/\Un (cA bw) [] H H' s.heap s'.heap/\fM P w H' s'.heap/\XY bw s H' a C t s'/\eF H' s'.heap a od/\E (.ref C) od H'
theorem BC(h:env.frame=aS L):cA (env::bw)=L::cA bw:=by
 unfold cA;rw[Av2,h]
theorem AB{h base:Heap}:∀{l:List Env} {b:Addr},h.FunFrames base l->b∈cA l->base.get? b=aV/\∃o,h.get? b=aS o/\∀vs,o.data≠ .fields vs
 | [],b,_,hb=>by cases hb
 | env::l,b,⟨_,⟨L,o,e1,e2,e3,e4⟩,r⟩,hb=>by
  rw[BC e1] at hb;rcases Aa7.mp hb with rfl | hb
  .exact⟨e2,o,e3,e4⟩
  .exact AB r hb
theorem PC{E E':XK}
  (hE:∀c o H,E c o H->E' c o H):Ci (cW P w) (AZ (cW P w) P w K mg base N qual scope f cd A bw s₀ H₀ E') E:=by
 intro bu σ H s e s' I h;obtain⟨a,C,t,od,H',rfl,os,bare,un,bO,⟨B,fl,mz⟩,di,q⟩:=h;have kC:(envOfC qual scope s₀.heap.objs.size f cd).frame=aS s₀.heap.objs.size:=rfl;have lS:cA (envOfC qual scope s₀.heap.objs.size f cd::bw)=s₀.heap.objs.size::cA bw:=BC kC;refine NJ I.ok.frames kC fl λh' nB ups kd=>?_;have ib:Un (cA bw) [] H₀ H s₀.heap s.heap:=I.base;have nl:∀b o,s₀.heap.get? b=aS o->b≠s₀.heap.objs.size:=λb o e=>Ac8 (Ab1 e);have toB:∀b,(H' b≠aV\/∃o,s.heap.get? b=aS o)->b∉cA (envOfC qual scope s₀.heap.objs.size f cd::bw)->∀o,s'.heap.get? b=aS o->h'.get? b=aS o:=λb hb hn o e=>nB.1 b o (mz b hb hn o e);have jP:∀b,b∈cA (envOfC qual scope s₀.heap.objs.size f cd::bw)->H' b=none:=λb hb=>by
  obtain⟨_,o,e,_⟩:=AB I.stack hb;exact un.free b o e (I.dc b hb) (by simp)
 have mU:fM P w H' h':=bO.on λb u hb e=>by
  refine toB b (.inl hb) (λz=>hb (jP b z)) u e
 refine⟨a,C,t,od,H',rfl,os.trans I.os,bare,?_,mU,⟨B,nB,λb hb hn o e=>?_⟩,di.on kd (let ⟨o,e,_⟩:=nB.there;⟨o,e⟩),hE _ _ _ q⟩
 .have eU:∀b o,s₀.heap.get? b=aS o->b∉cA bw->b∉cA (envOfC qual scope s₀.heap.objs.size f cd::bw):=λb o e hn z=>by
   rw[lS] at z;rcases Aa7.mp z with z | z
   .exact nl b o e z
   .exact hn z
  have isin:∀b,b∈cA bw->b∈cA (envOfC qual scope s₀.heap.objs.size f cd::bw):=λb hb=>by rw[lS];exact Aa8 _ hb
  refine⟨λb o e hH hn _=>?_,λb o e hH hb _=>?_,λb o e hH _=>?_,λb o e _=>?_,λb xs e=>un.gY b xs (ib.gY b xs e),λb o u e=>un.gz b o u (ib.gz b o u e),λb ps e=>?_⟩
  .have e1:=ib.keep b o e hH hn (by simp);exact toB b (.inr ⟨o,e1⟩) (eU b o e hn) o (un.keep b o e1 (ib.free b o e hH (by simp)) (eU b o e hn) (by simp))
  .obtain⟨sl,e1⟩:=ib.slot b o e hH hb (by simp);obtain⟨tD,e2⟩:=un.slot b _ e1 (ib.free b o e hH (by simp)) (isin b hb) (by simp);obtain⟨_,o',e',nf⟩:=AB fl.2.2.1 (isin b hb);rw[e2] at e';cases e';obtain⟨oF,e3⟩:=ups b _ e2 nf;exact⟨oF,e3⟩
  .obtain⟨o1,e1⟩:=ib.there b o e (by simp);exact un.free b o1 e1 (ib.free b o e hH (by simp)) (by simp)
  .obtain⟨o1,e1⟩:=ib.there b o e (by simp);obtain⟨o2,e2⟩:=un.there b o1 e1 (by simp);by_cases hb:b∈cA bw
   .obtain⟨_,o',e',nf⟩:=AB fl.2.2.1 (isin b hb);obtain⟨oF,e3⟩:=ups b _ e' nf;exact⟨_,e3⟩
   .exact⟨o2,toB b (.inr ⟨o1,e1⟩) (eU b o e hb) o2 e2⟩
  .obtain⟨m1,e1⟩:=ib.gB b ps e;obtain⟨m2,e2⟩:=un.gB b _ e1;exact⟨m1++m2,by rw[e2,AD7]⟩
 .have kJ:b∉cA (envOfC qual scope s₀.heap.objs.size f cd::bw):=λz=>by
   have z0:=z;rw[lS] at z;rcases Aa7.mp z with z | z
   .rcases hb with hb | ⟨o1,e1⟩
    .exact hb (jP b z0)
    .exact nl b o1 e1 z
   .exact hn z
  obtain⟨o2,e2,kB⟩:∃o2,s'.heap.get? b=aS o2/\(H' b≠aV\/∃o,s.heap.get? b=aS o):=by
   rcases hb with hb | ⟨o1,e1⟩
   .cases hx:H' b with
    | none=>exact bV hx hb
    | some u=>
     obtain⟨o2,e2⟩:=FG (bO b u hx);exact⟨o2,e2, .inl (λz=>by cases z)⟩
   .obtain⟨o3,e3⟩:=ib.there b o1 e1 (by simp);obtain⟨o2,e2⟩:=un.there b o3 e3 (by simp);exact⟨o2,e2, .inr ⟨o3,e3⟩⟩
  have e3:=mz b kB kJ o2 e2;have e4:=nB.1 b o2 e3;rw[show h'.get? b=aS o from e] at e4;cases e4;exact e3
end L2
namespace xU
open PySem.W PyProof.Rows
variable {r:Nat->Nat}{p:Array Nat}
end xU
namespace HT
open PySem PySem.Spec PyProof.Rows PySem.W
variable {prog:Program}{w:bg}{E:Value->aT->Prop}{s:aT}
end HT
namespace HT
open PySem PySem.Spec PyProof.Rows PySem.W
variable {prog:Program}{w:bg}{E:Value->aT->Prop}{s:aT}
noncomputable def aam(x:Str)(i:Int)(y:Str)(j:Int):Bool:=if x=y then decide (i<j) else decide (x.cps.toList<y.cps.toList)
end HT
namespace L2
open PySem PySem.Spec PyProof.Rows PySem.W
structure aaL(rk:List Key->Nat)(ks:List (List Key)):Prop where
 shp:∀k∈ks,∃(x:Str) (i:Int),k=[.inr x, .inl i]
 inj:∀k∈ks,∀k'∈ks,rk k=rk k'->k=k'
 ord:∀(x:Str) (i:Int) (y:Str) (j:Int),([.inr x, .inl i]:List Key)∈ks->([.inr y, .inl j]:List Key)∈ks->HT.aam x i y j=decide (rk [.inr x, .inl i]<rk [.inr y, .inl j])
end L2
namespace L2
open PySem PySem.Spec PyProof.Rows
theorem Hn{h base B:Heap}:∀{l:List Env},h.FunFrames base l->(∀b∈cA l,B.get? b=aV)->h.FunFrames B l
 | [],_,_=>trivial
 | env::l,⟨k,⟨L,o,e1,e2,e3,e4⟩,r⟩,hb=>by
  rw[BC e1] at hb;exact⟨k,⟨L,o,e1,hb L (Ab0 ..),e3,e4⟩,Hn r λb h'=>hb b (Aa8 _ h')⟩
theorem Eh{h1 h2:Heap}(a:h.UpToSlots h1)(b:h1.UpToSlots h2):h.UpToSlots h2:=λc o e nf=>by
 obtain⟨sl,e1⟩:=a c o e nf;obtain⟨tD,e2⟩:=b c _ e1 nf;exact⟨tD,e2⟩
theorem MO{l:List Env}{s:aT}{t:Addr}{B h3:Heap}(un:Un (cA l) [] H H' s.heap s₁.heap)(bO:fM P w H' s₁.heap)(fl:B.FlyingW l a (.ref C) (.ref t) s₁.heap)
  (mz:∀b,(H' b≠aV\/∃o,s.heap.get? b=aS o)->b∉cA l->∀o,s₁.heap.get? b=aS o->B.get? b=aS o) (jP:∀b∈cA l,H' b=aV) (kN:B.FlyingW l a (.ref C) (.ref t) h3) (ups:s₁.heap.UpToSlots h3):
  Un (cA l) [] H H' s.heap h3/\fM P w H' h3:=by
 have mV:∀b,(H' b≠aV\/∃o,s.heap.get? b=aS o)->b∉cA l->∀o,s₁.heap.get? b=aS o->h3.get? b=aS o:=λb hb hn o e=>kN.1 b o (mz b hb hn o e);refine⟨⟨λb o e hH hn hx=>mV b (.inr ⟨o,e⟩) hn o (un.keep b o e hH hn hx),λb o e hH hb hx=>?_,un.free,λb o e hx=>?_,un.gY,un.gz,un.gB⟩,bO.on λb u hb e=>mV b (.inl hb) (λz=>hb (jP b z)) u e⟩
 .obtain⟨sl,e1⟩:=un.slot b o e hH hb hx;obtain⟨_,o',e',nf⟩:=AB fl.2.2.1 hb;rw[e1] at e';cases e';obtain⟨oF,e3⟩:=ups b _ e1 nf;exact⟨oF,e3⟩
 .obtain⟨o1,e1⟩:=un.there b o e hx;by_cases hb:b∈cA l
  .obtain⟨_,o',e',nf⟩:=AB fl.2.2.1 hb;obtain⟨sl,e2⟩:=ups b _ e' nf;exact⟨_,e2⟩
  .exact⟨o1,mV b (.inr ⟨o,e⟩) hb o1 e1⟩
noncomputable def Gd(a C:Addr)(od:Option Addr):HO:= .ext λh=>∃o,h.get? a=aS o/\o.cls= .ref C/\o.dict=od/\∃vs,o.data= .fields vs
theorem VG{o:Obj}(e:h.get? a=aS o)(c:o.cls= .ref C)(d:o.data= .fields vs):bK P w H h a (Gd a C o.dict):=
 ⟨⟨o,e,c,rfl,vs,d⟩,⟨o,e⟩,λ_ _ ⟨o,e,c⟩ k=>⟨o,k o e,c⟩⟩
theorem Ml{u:HO}(bO:fM P w H h)(n:H a=aV)(new:bK P w (upd H a u) h a u):fM P w (upd H a u) h:=λb o e=>by
 by_cases z:b=a
 .subst z;rw[upd_same] at e;cases e;exact new
 .rw[An z] at e;have ne:∀c v,H c=aS v->c≠a:=λc v q z=>by rw[z,n] at q;cases q
  exact(bO b o e).kc (λc v _ q=>q) (λc q=>(An (ne c _ q)).trans q) λc xs q=>(An (ne c _ q)).trans q
theorem Mn{u:HO}(un:Un fs ex H H' h h')(n:H' a=aV)(na:h.get? a=aV):Un fs ex H (upd H' a u) h h':=by
 have ne:∀c v,H' c=aS v->c≠a:=λc v q z=>by rw[z,n] at q;cases q
 refine⟨un.keep,un.slot,λb o e hH hx=>?_,un.there,λb xs e=>?_,λb o v e=>?_,λb ps e=>?_⟩
 .have z:b≠a:=λz=>by rw[z,na] at e;cases e
  rw[An z];exact un.free b o e hH hx
 .have:=un.gY b xs e;exact(An (ne _ _ this)).trans this
 .have:=un.gz b o v e;exact(An (ne _ _ this)).trans this
 .obtain⟨m,this⟩:=un.gB b ps e;exact⟨m,(An (ne _ _ this)).trans this⟩
section
variable {s:aT}{E:XK}{e:Value}
theorem X3{R:aT->Prop}(I:Inv X bu σ H s)(fQ:X.stack=X.env::X.bw)(hf:X.env.frame=aS X.env.locals)(h:cW X.prog X.w X.stack H s E e s₁)
  (k:∀(a C t:Addr) (od:Option Addr) (H':Hp) (B h3:Heap),e= .ref a->B.FlyingW X.stack a (.ref C) (.ref t) h3->s₁.heap.UpToSlots h3->eF H' h3 a od->(∀h4:Heap,B.FlyingW X.stack a (.ref C) (.ref t) h4->s₁.heap.UpToSlots h4->eF H' h4 a od->Inv X bu σ H' { s₁ with heap:=h4 }/\Inv X bu σ (upd H' a (Gd a C od)) { s₁ with heap:=h4 })->H' a=aV->E (.ref C) od H'->R { s₁ with heap:=h3 }):
  aW (aX X.prog X.w) X.A (Ao9 e X.env) (λ_ s₂=>aW (aX X.prog X.w) X.A (Aq4 e aV) (λ_ s₃=>R s₃) E2 s₂) E1 s₁:=by
 obtain⟨a,C,t,od,H',rfl,os,bare,un,bO,⟨B,fl,mz⟩,di,q⟩:=h;have jP:∀b∈cA X.stack,H' b=none:=λb hb=>by
  obtain⟨_,o,e,_⟩:=AB I.stack hb;exact un.free b o e (I.dc b hb) (by simp)
 obtain⟨oa,rZ,xV⟩:=fl.there;have af:a∉cA X.stack:=λz=>by
  obtain⟨_,_,_,oe,vs,T,oT,ts,he,nX,hd,_⟩:=id fl;obtain⟨_,o',e',nf⟩:=AB fl.2.2.1 z;rw[he] at e';cases e';exact nf _ hd
 have an:H' a=none:=by
  cases hx:H' a with
  | none=>rfl
  | some u=>
   have:=mz a (.inl (by rw[hx];exact λz=>by cases z)) af oa rZ;rw[fl.2.1] at this;cases this
 have as:s.heap.get? a=none:=by
  cases hx:s.heap.get? a with
  | none=>rfl
  | some o=>
   have:=mz a (.inr ⟨o,hx⟩) af oa rZ;rw[fl.2.1] at this;cases this
 have nB:=fl;rw[fQ] at nB;refine Hu (by rw[I.ok.frames,fQ]) hf nB λh2 hh u2 kd2=>SE (s:={ s₁ with heap:=h2 }) hh λh3 kN u3 xW=>?_;rw[<-fQ] at kN;refine k a C t od H' B h3 rfl kN (Eh u2 u3) (di.on (kd2.trans xW) (let ⟨o,e,_⟩:=kN.there;⟨o,e⟩)) (λh4 qN u4 di4=>?_) an q;obtain⟨xX,qO⟩:=MO un bO fl mz jP qN u4;obtain⟨_,_,_,o4,vs4,_,_,_,e4,⟨c4,_⟩,dd4,_⟩:=id qN;have d4:o4.dict=od:=by
  obtain⟨o5,e5,d5,_⟩:=di4;rw[e4] at e5;cases e5;exact d5
 subst d4;exact⟨I.kF (s':={ s₁ with heap:=h4 }) (ch:=[]) os xX qO bare (λ_ z=>by cases z),I.kF (s':={ s₁ with heap:=h4 }) (ch:=[]) os (Mn xX an as) (Ml qO an (VG e4 c4 dd4)) bare (λ_ z=>by cases z)⟩
end
noncomputable def Cx.ji(X:Cx)(pn:List (Addr×Obj))(xe:Value->aT->Prop):Cx:={ X with pn:=pn,xe:=xe }
noncomputable def Cx.jA(X:Cx)(a:Addr)(xe:Value->aT->Prop):Cx:={ X with A:=X.A.mark (aS (.ref a)),calm:=false,xe:=xe }
section
variable {tG:List (Addr×Obj)}{s:aT}{xe:Value->aT->Prop}
theorem Inv.ji(I:Inv X bu σ H s):Inv (X.ji (X.pn++bu) xe) [] σ H s:=
 ⟨⟨I.ok.mod,I.ok.kind,I.ok.glob,I.ok.blt,I.ok.above,I.ok.inj,I.ok.has,I.ok.rB,I.ok.hd,I.ok.frames,I.ok.sS,I.ok.sU,I.ok.bs,I.ok.mH,I.ok.lJ,I.ok.lq,I.ok.fO,I.ok.pB⟩,
  I.os,I.bare,I.base,I.loc,I.cell,I.free,I.dH,λp hp=>I.pin p (by simpa [Cx.ji] using hp),I.bO,I.len⟩
theorem Inv.iU(ok:X.Ok)(I:Inv (X.ji (X.pn++tG) xe) bu σ H s):Inv X tG σ H s:=
 ⟨ok,I.os,I.bare,I.base,I.loc,I.cell,I.free,I.dH,λp hp=>I.pin p (Aq3 _ hp),I.bO,I.len⟩
theorem Inv.jA(I:Inv X bu σ H s):Inv (X.jA a xe) bu σ H s:=
 ⟨⟨I.ok.mod,I.ok.kind,I.ok.glob,I.ok.blt,I.ok.above,I.ok.inj,I.ok.has,I.ok.rB,λz=>(by cases z),I.ok.frames,I.ok.sS,I.ok.sU,I.ok.bs,I.ok.mH,I.ok.lJ,I.ok.lq,I.ok.fO,I.ok.pB⟩,
  I.os,I.bare,I.base,I.loc,I.cell,I.free,I.dH,I.pin,I.bO,I.len⟩
theorem Inv.unmark(ok:X.Ok)(I:Inv (X.jA a xe) bu σ H s):Inv X bu σ H s:=
 ⟨ok,I.os,I.bare,I.base,I.loc,I.cell,I.free,I.dH,I.pin,I.bO,I.len⟩
theorem Pk{Q:Unit->aT->Prop}(I:Inv X bu σ H s)(hN:X.N.Nodup)(hi:X.N[i]?=aS x)(hx:X.env.scope.names.lookup x=aS .local)(hv:σ[i]?=aS (aS v))
  (h:∀s',Inv X bu (σ.set i aV) H s'->Q () s'):aW M A (unbindName X.env x) Q E s:=by
 obtain⟨m,hn,hl⟩:=id I.loc;have nX:(X.env.scope.kind == .class||(X.env.scope.kind == .module&&X.env.locals != X.env.globals))=false:=by rw[I.ok.kind];rfl
 obtain⟨u0,_,q0⟩:=hl i x v hi hv (.inl hx);have hm:m x=aS u0:=by
  rcases q0 with ⟨_,e⟩ | ⟨k,_⟩
  .exact e
  .rcases k with k | k
   .rw[show X.env.kindOf x=aS .local from hx] at k;cases k
   .rw[show X.env.kindOf x=aS .local from hx] at k;cases k
 have yY:i<σ.length:=by rw[I.len];exact(Ab8.mp hi).1
 have qi:=I.qi;refine wpAny_unbindName_local hx hn hm nX λh' u qA hs=>?_;obtain⟨oL,_,_,hoL,_⟩:=id hn;have vN:∀b o,X.s₀.heap.get? b=aS o->b≠X.env.locals:=λb o e=>Ac8 (Ac6 (Ab1 e) I.ok.above);refine h _ ⟨I.ok,I.os,I.bare,⟨λb o e n hb hx=>?_,λb o e n hb hx=>?_,I.base.free,λb o e hx=>?_,I.base.gY,I.base.gz,I.base.gB⟩,⟨_,qA,λj y v' e1 e2 e3=>?_⟩,λy c e=>?_,I.free,I.dH,λp hp=>?_,λb ob e=>?_,by simpa using I.len⟩
 .exact(hs.2 b (vN b o e)).trans (I.base.keep b o e n hb hx)
 .obtain⟨sl,e1⟩:=I.base.slot b o e n hb hx;exact⟨sl,(hs.2 b (vN b o e)).trans e1⟩
 .obtain⟨o',e1⟩:=I.base.there b o e hx;exact⟨o',(hs.2 b (vN b o e)).trans e1⟩
 .by_cases hj:j=i
  .subst hj;rw[As8 yY] at e2;cases e2
  .rw[Au4 (Ak9 hj)] at e2;obtain⟨u',r',q⟩:=hl j y v' e1 e2 e3;refine⟨u',r',?_⟩;rcases q with ⟨k,e⟩ | ⟨k,c,e,z⟩
   .refine .inl ⟨k,?_⟩;have:y≠x:=λe=>hj (IT hN e1 (e▸hi));simp[this,e]
   .exact .inr ⟨k,c,e,z.sameBut hs (qi y c e)⟩
 .obtain⟨w',z⟩:=I.cell y c e;exact⟨w',z.sameBut hs (qi y c e)⟩
 .obtain⟨e,n,ne,nf,d⟩:=I.pin p hp;exact⟨(hs.2 p.1 ne).trans e,n,ne,nf,d⟩
 .refine(I.bO b ob e).kc (λc w' hc q=>(hs.2 c ?_).trans q) (λ_ q=>q) λ_ _ q=>q;rintro rfl;rcases hc with rfl | hc
  .rw[I.free] at e;cases e
  .rw[I.free] at hc;cases hc
end
noncomputable def VP(j:Nat)(D:Ends):Ends:={ nx:=λσ H=>D.nx (σ.set j aV) H,rt:=D.rt,bk:=λσ H=>D.bk (σ.set j aV) H,ct:=λσ H=>D.ct (σ.set j aV) H }
noncomputable def V5(K:aU)(CL:Addr)(len j:Nat)(ts:TS)(D:Ends):XK:=λcls od H'=>∃C,cls= .ref C/\As3 K cls (.ref CL)=aS true/\
 ∀(a:Addr) (σ:St),H' a=aV->σ.length=len->ts (VP j D) (σ.set j (aS (.ref a))) (upd H' a (Gd a C od))
noncomputable def W7(K:aU)(CL:Addr)(len j:Nat)(tb:XK->TS)(ts:TS):TS:=λD σ H=>tb (V5 K CL len j ts D) D σ H
end L2
namespace L2
open PySem PySem.Spec PyProof.Rows PySem.W
theorem VT{x n:Str}{tb:XK->TS}(fQ:X.stack=X.env::X.bw)(hf:X.env.frame=aS X.env.locals)(hm:X.mg x=aS (.ref CL))
  (hN:X.N.Nodup) (hj:X.N[j]?=aS n) (hx:X.env.scope.names.lookup n=aS .local)
  (hb:∀(pn:List (Addr×Obj)) (xe:Value->aT->Prop) (E:XK),Ci (cW X.prog X.w) (X.ji pn xe) E->lK (X.ji pn xe) body (tb E)) (hs:∀(a:Addr) (xe:Value->aT->Prop),lK (X.jA a xe) (b₀::pI) ts)
  (hg:Gl X x:=by rfl) (hd:(x == ("__debug__":Str))=false:=by decide):
  PS X (.Try body [.ExceptHandler (aS (.Name x xp)) (aS n) (b₀::pI) hp] [] [] pos) (W7 X.K CL X.N.length j tb ts):=by
 intro bu s σ H D I h;refine wpAny_Try_except ?_;have pass:Ci (cW X.prog X.w) (X.ji (X.pn++bu) (λe s₁=>aW (aX X.prog X.w) X.A (Ao9 e X.env) (λ_ s₂=>aW (aX X.prog X.w) X.A (Aq4 e aV) (λ_ s₃=>aW (aX X.prog X.w) X.A (handleBy e X.env [.ExceptHandler (aS (.Name x xp)) (aS n) (b₀::pI) hp]) (SP X bu D) X.xe s₃) X.xe s₂) X.xe s₁)) (V5 X.K CL X.N.length j ts D):=by
  intro qz σ' H1 s1 e s' I1 hc;have zB:Inv X bu σ' H1 s1:=I1.iU I.ok;refine X3 zB fQ hf hc λa C t od H' B h3 e0 kN u3 zC inv an q=>?_;subst e0;obtain⟨C',eC,xF,hr⟩:=q;cases eC;have I3:=(inv h3 kN u3 zC).1;obtain⟨oa,rZ,xV⟩:=kN.there;refine wpAny_handleBy_cons (codeAny_handlers_test ?_) (by intro q;cases q);refine Ap9 I.ok.kind hg (Ay5 (by rw[I.ok.glob];exact I.mod.glob.keeps I3.bk) hm ?_) hd;have lt:Looks (aX X.prog X.w) h3 (typeOf (.ref a)) (.ref C):=xV▸(Looks.ld rZ).andThen .now;refine Ao6 (s:={ s' with heap:=h3 }) (PySem.W.exm_one (K:=X.K) I3.dG lt xF) ?_;show An3 _ _ (.handlers (.ref a) [.ExceptHandler aV (aS n) (b₀::pI) hp] X.env) _ _;refine codeAny_handlers_suite_as ?_;refine OB (base:=B) (l:=X.stack) (s:={ s' with heap:=h3 }) kN.1 kN.2.2.1 kN.2.2.2 λh4 k1 k2 k3 k4 kd4=>?_;have qN:B.FlyingW X.stack a (.ref C) (.ref t) h4:=⟨k1,kN.2.1,k2,k3⟩;have u4:s'.heap.UpToSlots h4:=Eh u3 λb o e nf=>⟨o.slots,k4 b o e nf⟩;have I4:=(inv h4 qN u4 (zC.on kd4 (let ⟨o,e,_⟩:=qN.there;⟨o,e⟩))).2;refine CA (v:= .ref a) I4 hN hj (.inl hx) rfl (λs5 I5=>?_) (.inr hx);refine Ac7 (hs a _ bu s5 _ _ (VP j D) I5.jA (hr a σ' an zB.len)) (λf s6 hq=>?_) λ_ _ y=>y;have fin:∀σ6 H6,Inv X bu σ6 H6 s6->∀Qf:aT->Prop,(∀s7,Inv X bu (σ6.set j aV) H6 s7->Qf s7)->aW (aX X.prog X.w) X.A (do bindName X.env n .none;AE9 X.env n hp) (λ_ s₃=>Qf s₃) X.xe s6:=λσ6 H6 I6 Qf hQ=>by
   refine Aa1 (bindName_ (CA (v:= .bC) I6 hN hj (.inl hx) rfl (λs7 I7=>?_) (.inr hx)));unfold AE9;have tH:j<σ6.length:=by rw[I6.len];exact(Ab8.mp hj).1
   refine AA9 (Pk (v:= .bC) I7 hN hj hx (by rw[As8 tH]) λs8 I8=>?_);rw[List.set_set] at I8;exact hQ s8 I8
  show aW (aX X.prog X.w) X.A (do bindName X.env n .none;AE9 X.env n hp) (λ_ s₃=>SP X bu D f s₃) X.xe s6;cases f with
  | next=>
   obtain⟨σ6,H6,I6,q6⟩:=hq;exact fin σ6 H6 (I6.unmark I.ok) _ λs7 I7=>⟨_,_,I7,q6⟩
  | brk=>
   obtain⟨σ6,H6,I6,q6⟩:=hq;exact fin σ6 H6 (I6.unmark I.ok) _ λs7 I7=>⟨_,_,I7,q6⟩
  | cont=>
   obtain⟨σ6,H6,I6,q6⟩:=hq;exact fin σ6 H6 (I6.unmark I.ok) _ λs7 I7=>⟨_,_,I7,q6⟩
  | ret u=>
   obtain⟨v6,σ6,H6,I6,r6,q6⟩:=hq;exact fin σ6 H6 (I6.unmark I.ok) _ λs7 I7=>⟨v6,_,_,I7,r6,q6⟩
 refine Ac7 (hb _ _ _ pass [] s σ H D I.ji h) (λf s₁ hq=>?_) λ_ _ y=>y;cases f with
 | next=>
  obtain⟨σ',H',I',q'⟩:=hq;exact Aq0 ⟨σ',H',I'.iU I.ok,q'⟩
 | brk=>
  obtain⟨σ',H',I',q'⟩:=hq;exact⟨σ',H',I'.iU I.ok,q'⟩
 | cont=>
  obtain⟨σ',H',I',q'⟩:=hq;exact⟨σ',H',I'.iU I.ok,q'⟩
 | ret u=>
  obtain⟨v',σ',H',I',r',q'⟩:=hq;exact⟨v',σ',H',I'.iU I.ok,r',q'⟩
end L2
namespace HT
open PySem PySem.Spec PyProof.Rows PySem.W PySem.Calls PySem.Builtin PySem.Builtin.ObjectAttr PySem.Builtin.Getset_descriptor
noncomputable def ExcAt(a C:Addr)(h:Heap):Prop:=∃o,h.get? a=aS o/\o.cls= .ref C
structure ExcKind(K:Frag)(C:Addr):Prop where
 cl:(clsIn K C).isSome=true
 ga:Aj4 K (.ref C) "__getattribute__"=aS (aS (.builtin "BaseException.__getattribute__"))
 ng:Aj4 K (.ref C) "__getattr__"=aS aV
 hb:Aw5 K C (.type "BaseException")=aS true
 ha:Aj4 K (.ref C) "__class__"=aS (aS (.builtin "object.__class__"))
 hn:Ax2 K (.builtin "object.__class__") "__get__"=aS (aS (.builtin "getset_descriptor.__get__"))
 uo:AD2 K (.builtin "object.__class__")=aS true
 hm:Aw5 K C (.type "object")=aS true
theorem ExcAt.type(x:ExcAt a C h):Looks M h (typeOf (.ref a)) (.ref C):=by
 obtain⟨o,e,c⟩:=x;exact c▸(Looks.ld e).andThen .now
theorem Sz(k:ExcKind K C)(X:K.In h):Looks M h (find (.ref a) (.ref C) "__class__") (.bind (.builtin "getset_descriptor.__get__") (.builtin "object.__class__")):=by
 have L1:=Ao4 (M:=M) X k.ha;have L2:Looks M h (getOf (aS (.builtin "object.__class__"))) (aS (.builtin "getset_descriptor.__get__")):=looks_specialIn X k.hn;have L3:=looks_takesIn (M:=M) X k.uo;exact L1.andThen (L2.andThen ((show Looks M h (dataDescriptor? (aS (.builtin "object.__class__")) (aS (.builtin "getset_descriptor.__get__"))) (aS (.builtin "getset_descriptor.__get__", .builtin "object.__class__")) from L3.andThen .now).andThen (Looks.tag .now)))
section
variable {prog:Program}{w:bg}{E:Value->aT->Prop}{s:aT}
theorem Uq{tp:Value}(X:K.In s.heap)(x:ExcAt a C s.heap)(hm:Aw5 K C (.type "object")=aS true)(h:R (.ok (.ret (.ref C))) s):
  An3 (aX prog w) A (.call (.builtin "getset_descriptor.__get__") ⟨[.builtin "object.__class__", .ref a,tp],[]⟩) R s:=by
 obtain⟨hh,g,dr,t,os⟩:=s;have L0:=x.type (M:=aX prog w);have L1:=looks_mroIn (M:=aX prog w) X hm;refine An0 KF.slot_gs.plain KF.entry_gs (KF.slot_gs.check _ _ _ _ _ _ _ _ KF.type_class (KF.args_gs _ _ _) ?_);unfold Aq7.«getset_descriptor.__get__» descrGet;rw[dga_obj];refine Aa1 (Ab2 ?_);unfold descrGetter descrCheckInstance descrNameAndClass isInstance;simp only[KF.owner_class]
 repeat lk
 refine⟨Aw9 _ (by decide +kernel),codeAny_builtin KF.entry_class ?_⟩;unfold Aq7.«object.__class__» shownTypeOf
 repeat lk
 exact h
theorem Ko{Q:Unit->aT->Prop}(k:ExcKind K C)(X:K.In s.heap)(x:ExcAt a C s.heap)(h:Q () s):aW (aX prog w) A (checkBuiltinCall "BaseException.__getattribute__" ⟨[.ref a,tK],[]⟩) Q E s:=by
 have hk:builtinKind "BaseException.__getattribute__"=aS .slot:=by decide +kernel
 have uR:splitId "BaseException.__getattribute__"=aS ("BaseException","__getattribute__"):=by decide +kernel
 have ha:=PySem.F.args_bexc_ga (.ref a) tK;have L0:=x.type (M:=aX prog w);have L1:=looks_mroIn (M:=aX prog w) X k.hb;simp only[checkBuiltinCall,hk,uR];refine Aa1 ?_;unfold isInstance
 repeat lk
 exact h
theorem Ps{Q:Option Value->aT->Prop}(k:ExcKind K C)(X:K.In s.heap)(x:ExcAt a C s.heap)(h:Q (aS (.ref C)) { s with toks:=s.toks+1 }):aW (aX prog w) A (getAttr? (.ref a) "__class__") Q E s:=by
 obtain⟨hh,g,d,t,os⟩:=s;have L0:=x.type (M:=aX prog w);have L1:=Ao4 (M:=aX prog w) X k.ga;have L2:=Ao4 (M:=aX prog w) X k.ng;have L3:=Sz (M:=aX prog w) (a:=a) k X;unfold getAttr? getAttrBy? getAttrBy;refine Aa1 (wpAny_mkText (Aa1 (Aw0 (Ae8 (Aa1 (L0.at (Aa1 (L1.at ?_))))))));show aW _ _ (AD5 (.ref a) _ (.ref C) (.builtin "BaseException.__getattribute__") false false) _ _ _;unfold AD5;refine Aa1 (L2.at ?_);refine Aa1 (Aw0 (Ae8 ?_));show aW _ _ (AF0 (.builtin "BaseException.__getattribute__") (.ref a) _) _ _ _;unfold AF0;rw[Ap5.ga.bind (.ref a)];refine Aa1 (Ab2 ?_);refine Ah2 (An0 Ap5.ga.plain PySem.F.entry_bexc_ga (Ko (s:=⟨hh,g,d,t+1,os⟩) k X x ?_));unfold Aq7.«object.__getattribute__»
 iterate 22 lk
 refine Ah2 (Uq (s:=⟨hh,g,d,t+1,os⟩) X x k.hm ?_)
 repeat lk
 exact h
theorem qP(k:ExcKind K C):KitX K (.ref a) (.ref C) (ExcAt a C) where
 ty:=λ_ _ _ x=>x.type
 it:=λ_ _ X _=>by
  obtain⟨cd,hc⟩:=Ax3.mp k.cl;unfold clsIn at hc;split at hc
  .rename_i c' d' cd' sl' ho
   intro A' Q' E' s' kk q;unfold isType loadHead;exact Aa1 (AE4 (kk _ _ (X _ _ ho)) (Ab2 q))
  .cases hc
 ne:=λh tp dd its n sl X pU=>by
  obtain⟨cd,hc⟩:=Ax3.mp k.cl;refine Bool.eq_false_iff.mpr λq=>?_;have e:C=tp:=Value.ref.inj (beq_iff_eq.mp q);subst e;unfold clsIn at hc;split at hc
  .rename_i c' d' cd' sl' ho
   have z:=(X _ _ ho).symm.trans pU;cases z
  .cases hc
 ca:=λX x h=>Ps k X x h
end
end HT
namespace L2
open PySem PySem.Spec PyProof.Rows
theorem Rk{Q:Value->aT->Prop}{b:Bool}(I:Inv X bu σ H s)(e:H a=aS (Gd a C od))(k:HT.ExcKind X.K C)
  (h:Ai6 X.K (.ref C) c=aS b) (hq:∀tk,Q (.bool b) { s with toks:=tk }):aW (aX X.prog X.w) A (call (.builtin "isinstance") [.ref a,c]) Q E s:=
 Al0 (HT.qP k) I.dG (show HT.ExcAt a C s.heap from let ⟨o,h1,h2,_⟩:=(show bK X.prog X.w H s.heap a (Gd a C od) from I.bO a _ e).1;⟨o,h1,h2⟩) h (λz=>nomatch z) hq
noncomputable def NU(K:aU):List V->Hp->VK->Prop:=λxs H Q=>∃(y c:V) (cv t:Value) (b:Bool),xs=[y,c]/\((∃D,c= .ref D/\cv= .ref D)\/∃T,c= .ty T/\cv= .type T)/\Ai6 K t cv=aS b/\
 (fB K H y t\/∃a C od,y= .ref a/\H a=aS (Gd a C od)/\t= .ref C/\HT.ExcKind K C)/\Q (.bl b) H
theorem CN(hK:X.K=K:=by rfl):BG X (.builtin "isinstance") (NU K):=by
 subst hK;intro bu s σ H xs us Q I r h;obtain⟨y,c,cv,t,b,rfl,hc,e,hy,q⟩:=h;obtain⟨u,c',rfl,rx,rc⟩:=Ol r;have ec:c'=cv:=by
  rcases hc with ⟨D,rfl,rfl⟩ | ⟨T,rfl,rfl⟩
  .exact rc
  .exact rc
 subst ec;rcases hy with ty | ⟨a,C,od,rfl,ha,rfl,k⟩
 .exact KQ I rx ty e λtk=>⟨.bl b,H,I.tok tk,rfl,q⟩
 .cases rx;exact Rk I ha k e λtk=>⟨.bl b,H,I.tok tk,rfl,q⟩
theorem Cz{b:Bool}(ha:H a=aS (Gd a C od))(k:HT.ExcKind K C)(e:Ai6 K (.ref C) (.ref D)=aS b)(h:Q (.bl b) H):NU K [.ref a, .ref D] H Q:=
 ⟨_,_,_,_,b,rfl, .inl ⟨D,rfl,rfl⟩,e, .inr ⟨a,C,od,rfl,ha,rfl,k⟩,h⟩
theorem Pq{b:Bool}(ha:H a=aS (Gd a C od))(k:HT.ExcKind K C)(e:Ai6 K (.ref C) (.type T)=aS b)(h:Q (.bl b) H):NU K [.ref a, .ty T] H Q:=
 ⟨_,_,_,_,b,rfl, .inr ⟨T,rfl,rfl⟩,e, .inr ⟨a,C,od,rfl,ha,rfl,k⟩,h⟩
end L2
namespace L2
open PySem PySem.Spec PyProof.Rows
noncomputable def BJ(P:Program)(w:bg)(K:aU)(mg:Str->Option Value)(base:Heap)(x:Str)(k:Nat)(ps:List Str)(sp:Sp):Prop:=
 ∃f fd,mg x=aS (.ref f)/\Ak7 K (.ref f)=true/\bQ P w K mg base (cW P w) k f fd ps sp/\Binds K fd ps []
theorem bJ.iV{st:Stmt}(d:bJ K mg x st ps f fd)
 (F:bQ P w K mg base (cW P w) k f fd ps sp):BJ P w K mg base x k ps sp:=⟨f,fd,d.at',d.fn.kp,F,d.bi⟩
section
variable {x:Str}{k:Nat}{E:XK}{e:br}{p:Pos}
theorem Bk(h:BJ X.prog X.w X.K X.mg X.base x k ps sp)(hr:cJ k X.A)(hx:Ci (cW X.prog X.w) X E)(ha:PA X (e::es) t)(hg:Gl X x:=by rfl)(om:(x == ("__debug__":Str))=false:=by decide)
  (he:aZ (e::es) X.env=(false,bh e X.env)::aZ es X.env:=by rfl) (kr:(An9 pos (aZ es X.env)).any (·.1)=false:=by rfl):
  PE X (.Call (.Name x p) (e::es) [] pos) (MP sp [] E t):=by
 obtain⟨f,fd,hm,hk,F,hb⟩:=h;exact O7 F hr hg hm hk hb .nil hx ha om he kr
end
theorem Dz{E:XK}:
 Ci (cW P w) (AZ (cW P w) P w K mg base N qual scope f cd A bw s₀ H₀ E) E:=PC λ_ _ _ h=>h
section
variable {P:Program}{w:bg}
theorem cR.uS{st:Stmt}(F:cR K x qual st f fd)(S:bz N ps (Ah st))(len:∀vs H Q E,sp vs H Q E->vs.length=ps.length)
  (jz:∀(gk:Value) (A:An2) (bw:List Env) (s:aT) (H:Hp) (vs:List V) (Q:VK) (E:XK),cJ k (A.deeper (envOfC qual (Ah st) s.heap.objs.size f gk))->sp vs H Q E->
   ∃t,lK (AZ (cW P w) P w K mg base N qual (Ah st) f gk A bw s H E) (CM st) t/\t { nx:=λ_ H'=>Q .bC H',rt:=Q } (start N vs) H):bQ P w K mg base (cW P w) (k+1) f fd ps sp:=by
 obtain⟨oc,od,kV,doc,pm,an,gk,ct,qk,rfl,lk,je⟩:=F.ex;refine QL lk je S len λA bw s H vs Q E hr oq=>?_;exact jz gk A bw s H vs Q E hr oq
end
theorem Iq:Am4 "ValueError"=aS (.type "ValueError"):=by decide +kernel
theorem Vs{D:Ends}(h:D.nx (σ.set j aV) H):(VP j D).nx σ H:=h
theorem WG{tb:XK->TS}(h:tb (V5 K CL len j ts D) D σ H):W7 K CL len j tb ts D σ H:=h
end L2
namespace L2
open PySem PySem.Spec PyProof.Rows
theorem ifE{ta tb:TE}(P:V->Hp->Prop)(h1:∀v H',P v H'->R v H')(h2:∀R':VK,(∀v H',P v H'->R' v H')->if c=true then ta σ H R' else tb σ H R'):if c=true then ta σ H R else tb σ H R:=h2 R h1
end L2
namespace L2
open PySem PySem.Spec PyProof.Rows PySem.W
noncomputable def qQ(a:Addr)(o:Obj):HO:= .ext λh=>h.get? a=aS o
theorem V6(e:h.get? a=aS o):bK P w H h a (qQ a o):=⟨e,⟨o,e⟩,λ_ _ x k=>k o x⟩
theorem T7(x:bK P w H h a (qQ a o)):h.get? a=aS o:=x.1
noncomputable def xY(P:Program)(w:bg)(K:aU)(mg:Str->Option Value)(base:Heap)(N:List Str)(qual:Str)(scope:Scope)(f:Addr)(cd:Value)(cl:List (Str×Addr))(A:An2)(bw:List Env)(s:aT)(H:Hp)(E:XK):Cx where
 prog:=P
 w:=w
 K:=K
 mg:=mg
 base:=base
 A:=A.deeper (envX qual scope s.heap.objs.size f cd cl)
 N:=N
 s₀:=s
 H₀:=H
 env:=envX qual scope s.heap.objs.size f cd cl
 bw:=bw
 stack:=envX qual scope s.heap.objs.size f cd cl::bw
 ex:=[]
 calm:=true
 fn:=λ_=>false
 pn:=[]
 xe:=λe s'=>aW (aX P w) (A.deeper (envX qual scope s.heap.objs.size f cd cl)) (AC8 (envX qual scope s.heap.objs.size f cd cl) e) (λ_ rT=>cW P w bw H s E e rT) (λe' rT=>cW P w bw H s E e' rT) s'
section
variable {P:Program}{w:bg}{f:Addr}{s:aT}{E:XK}
structure kO(N:List Str)(scope:Scope)(cl:List (Str×Addr))(h:Heap)(H:Hp)(vs:List V):Prop where
 len:vs.length=N.length
 inj:∀x y c,cl.lookup x=aS c->cl.lookup y=aS c->x=y
 has:∀x,(scope.names.lookup x=aS .cell\/scope.names.lookup x=aS .free)->∃c,cl.lookup x=aS c
 val:∀(i:Nat) (x:Str) (v:V),N[i]?=aS x->vs[i]?=aS v->∃c u,scope.names.lookup x=aS .free/\cl.lookup x=aS c/\RelV v u/\h.IsCell c (aS u)
 cell:∀x c,cl.lookup x=aS c->(∃v,h.IsCell c v)/\H c=aV
end
theorem kO.on(C:kO N scope cl h H vs)(k:∀x c o,cl.lookup x=aS c->h.get? c=aS o->h'.get? c=aS o/\H' c=aV):kO N scope cl h' H' vs:=by
 refine⟨C.len,C.inj,C.has,λi x v h1 h2=>?_,λx c e=>?_⟩
 .obtain⟨c,u,k1,l,r,o,e,d⟩:=C.val i x v h1 h2;exact⟨c,u,k1,l,r,o,(k x c o l e).1,d⟩
 .obtain⟨⟨v,o,e1,d⟩,_⟩:=C.cell x c e;exact⟨⟨v,o,(k x c o e e1).1,d⟩,(k x c o e e1).2⟩
noncomputable def UZ(qual:Str)(oc:Obj):Prop:=∃vs t,oc.data= .fields vs/\vs[1]?=aS (.str qual t)
theorem KG{p:Pos}{c cv:Value}{a b:Int}{t u:Tok}:∀(l:List Value),TriplesOk l->AC1 p (l++[.int a t, .int b u,c])=aS cv->AC1 p l=aS cv\/cv=c
 | [],_,h=>by
  right;simp only[AH6,AC1] at h;split at h
  .exact(Ae1.inj h).symm
  .cases h
 | .int x tx:: .int y ty::z::rest,ok,h=>by
  have h:AC1 p (.int x tx:: .int y ty::z::(rest++[.int a t, .int b u,c]))=aS cv:=h;simp only[AC1] at h ⊢;split at h
  .rename_i hc
   rw[bS hc];exact .inl h
  .rename_i hc
   rw[bG hc];exact KG rest ok h
noncomputable def gC(H:Hp)(P:Addr)(qual:Str):Prop:=∃ps:Array Value,H P=aS (.ko ps)/\TriplesOk ps.toList/\∀pos cv,AC1 pos ps.toList=aS cv->∃c' oc,cv= .ref c'/\H c'=aS (qQ c' oc)/\UZ qual oc
structure xZ(X:Cx)(c P:Addr):Prop where
 code:X.env.code= .ref c
 hd:As4 X.base c P
 blt:X.base.BuiltinsAt X.mg P
section
variable {s:aT}
theorem mkL{c P:Addr}{Q:Value->aT->Prop}(L:xZ X c P)(kD:∀y∈scope.names,y.2= .free->X.env.kindOf y.1=aS .cell)(uT:defaultsOf params X.env=([],[]))
  (I:Inv X bu σ H s) (hT:gC H P (X.env.qual++"<lambda>"))
  (h:∀f c' oc pm pY H' s',Inv X bu σ H' s'->s'.heap.get? f=aS (kla_obj "<lambda>" (X.env.qual++"<lambda>") params body scope (AO X.env.cells scope.names []) pm c' pY)->H' f=aV->s.heap.objs.size<=f->H' c'=aS (qQ c' oc)->UZ (X.env.qual++"<lambda>") oc->
   gC H' P (X.env.qual++"<lambda>")->(∀b o,b≠P->H b=aS o->H' b=aS o)->Q (.ref f) s'):
  aW (aX X.prog X.w) X.A (bh (.Lambda params body scope pos) X.env) Q E s:=by
 obtain⟨ps,hP,ok,hit⟩:=hT;have hPh:s.heap.get? P=aS (tabObj ps):=I.bO P _ hP;have vW:closureFor scope X.env=pure (AO X.env.cells scope.names []):=Cu λy hy e=>I.ok.has y.1 (.inl (kD y hy e));have hg:s.heap.Ns Al3 X.mg:=I.mod.glob.keeps I.bk;have C:=L.hd.keeps I.bk;have nP:∀b,H b=aV->b≠P:=λb n z=>by rw[z,hP] at n;cases n
 have hgP:Al3≠P:=λq=>by
  obtain⟨o,es,ep,e,d,_⟩:=hg;rw[q,hPh] at e;cases e;cases d
 have hb:s.heap.BuiltinsAt X.mg P:=by
  obtain⟨bm,o,a1,a2,a3,a4,a5,r⟩:=L.blt;exact⟨bm,o,a1,a2,a3,a4,I.bk _ _ a5,r⟩
 refine kla_eval uT ?_;cases hc:AC1 pos ps.toList with
 | some cv=>
  obtain⟨c',oc,rfl,vO,sV⟩:=hit pos cv hc;refine kla_makeFunctionHit vW I.ok.glob hg L.code C hPh ok hc hb λpY h' tk kp sz=>?_;have kp2:∀b o,s.heap.get? b=aS o->(h'.push (kla_obj "<lambda>" (X.env.qual++"<lambda>") params body scope (AO X.env.cells scope.names []) ((X.mg "__name__").getD .none) c' pY)).get? b=aS o:=λb o e=>Aa4 _ (kp b o e);refine h h'.objs.size c' oc _ pY H _ (I.un (Un.kept kp2) (I.bO.kept kp2)) (Ab9 _ rfl) (I.bO.fresh sz) sz vO sV ⟨ps,hP,ok,hit⟩ λb o _ e=>e
 | none=>
  refine kla_makeFunction vW I.ok.glob hg L.code C hPh ok hc hgP hb λc' pY h' tk hx hge dZ aan htb=>?_;obtain⟨c2,oc,vs,t,e2,sV,hd,hv⟩:=aan;cases e2;generalize vX:ps++ #[Ay6 pos.line,Ay6 pos.col, .ref c']=vY at htb;have xE:H c'=none:=I.bO.fresh hge;have ncP:c'≠P:=λz=>by rw[z,hP] at xE;cases xE
  generalize hfo:kla_obj "<lambda>" (X.env.qual++"<lambda>") params body scope (AO X.env.cells scope.names []) ((X.mg "__name__").getD .none) c' pY=fo;have kp:∀b o,b≠P->s.heap.get? b=aS o->(h'.push fo).get? b=aS o:=λb o hb e=>Aa4 _ (hx b o hb e);have fz:s.heap.objs.size<=h'.objs.size:=AF8 (AE8 hge dZ);have nc:∀b u,H b=aS u->b≠c':=λb u q z=>by rw[z,xE] at q;cases q
  have nT:∀b u,H b=aS u->(∀qs,u≠ .ko qs)->b≠P:=λb u q n z=>by rw[z,hP] at q;cases q;exact n _ rfl
  have old:∀b u,b≠P->H b=aS u->upd (upd H c' (qQ c' oc)) P (.ko vY) b=aS u:=λb u hb q=>by rw[An hb,An (nc b u q)];exact q
  have mU:fM X.prog X.w (upd (upd H c' (qQ c' oc)) P (.ko vY)) (h'.push fo):=λa o e=>by
   by_cases ha:a=P
   .subst ha;rw[upd_same] at e;cases e;exact Aa4 _ htb
   .rw[An ha] at e;by_cases pJ:a=c'
    .subst pJ;rw[upd_same] at e;cases e;exact V6 (Aa4 _ sV)
    .rw[An pJ] at e;refine(I.bO a o e).kc (λb u hb q=>kp b u ?_ q) (λb q=>old b _ (nT b _ q λ_ z=>by cases z) q) λb xs q=>old b _ (nT b _ q λ_ z=>by cases z) q;rcases hb with rfl | hb
     .exact ha
     .exact nT b _ hb λ_ z=>by cases z
  have I':Inv X bu σ (upd (upd H c' (qQ c' oc)) P (.ko vY)) { s with heap:=h'.push fo,toks:=tk }:=by
   refine I.step (g':=s.gens) (d':=s.drawn) (ch:=[]) (λ_ z=>nomatch z) (λb o _ _ _ e n=>kp b o (nP b n) e) (λb o _ _ _ e n=>⟨o.slots,kp b o (nP b n) e⟩) (λb o _ e n=>?_) (λb o _ e=>?_) (λb xs q=>old b _ (nT b _ q λ_ z=>by cases z) q) (λb o u q=>old b _ (nT b _ q λ_ z=>by cases z) q) (λb qs q=>?_) (λm hm=>?_) mU I.bare
   .rw[An (nP b n),An (Ac8 (Ac6 (Ab1 e) hge))];exact n
   .by_cases hb:b=P
    .subst hb;exact⟨_,Aa4 _ htb⟩
    .exact⟨o,kp b o hb e⟩
   .by_cases hb:b=P
    .subst hb;rw[hP] at q;cases q;exact⟨_,by rw[upd_same, <-vX]⟩
    .exact⟨#[],by rw[old b _ hb q];simp⟩
   .exact(hm.extBut hx (nP _ I.free)).push _
  subst hfo;refine h h'.objs.size c' oc _ pY _ _ I' (Ab9 _ rfl) ?_ fz ?_ ⟨vs,t,hd,hv⟩ ⟨vY,upd_same,?_,λp cv q=>?_⟩ λb o hb q=>old b o hb q
  .have hn:H h'.objs.size=none:=I.bO.fresh fz;rw[An (nP _ hn),An (AF9 dZ)];exact hn
  .rw[An ncP,upd_same]
  .rw[<-vX,Array.toList_append];exact TriplesOk_snoc _ _ _ _ ok
  .rw[<-vX,Array.toList_append] at q;rcases KG ps.toList ok q with z | rfl
   .obtain⟨c1,oc1,e1,e2,e3⟩:=hit p cv z;exact⟨c1,oc1,e1,old c1 _ (nT c1 _ e2 λ_ z=>by cases z) e2,e3⟩
   .exact⟨c',oc,rfl,by rw[An ncP,upd_same],vs,t,hd,hv⟩
end
theorem Ve{T:Addr}(t:Top p loose aao mg mb h)(hT:h.get? T=aS (tabObj #[])):h.BuiltinsAt mg T:=by
 obtain⟨bm,ob,b1,b2,b3,b4,b5,b6⟩:=t.bmain;refine⟨bm,ob,b1,b2,λq=>?_,λq=>?_,b3,b4,b5,b6⟩
 .obtain⟨o,es,ep,e,hd,_⟩:=t.g;rw[q,e] at b3;cases b3;rw[hd] at b6;cases b6
 .rw[q,hT] at b3;cases b3;cases b4
theorem Kr{T:Addr}(h:H T=aS (.ko #[])):gC H T qual:=⟨#[],h,trivial,λ_ _ z=>by cases z⟩
theorem P4{xs:List V}{σ0:St}{ps:List (V×V)}(h:bx K H a xs)(hp:∀i,i<xs.length->∃b,xs.getD i .bC= .ref b/\H b=aS (.tup [(ps.getD i (.bC, .bC)).1,(ps.getD i (.bC, .bC)).2]))(h0:σ0[0]?=aS aV)(h1:σ0[1]?=aS aV):
  fD (ud K a) (LK K 2 (Dp (AN 0) (Dp (AN 1) Na))) σ0 H xs.length (λi=>(σ0.set 0 (aS (ps.getD i (.bC, .bC)).1)).set 1 (aS (ps.getD i (.bC, .bC)).2)) where
 go:=λi H' hi s=>⟨xs,xs[i],s.seq h,by simp[hi]⟩
 stop:=λH' s=>⟨xs,s.seq h,Aa6 _⟩
 jM:=λi H' x gx R hi s y k=>by
  obtain⟨e,hv⟩:=y;subst e;have e:x=xs.getD i .bC:=by
   have:=hv xs (s.seq h);rw[Aa2,this];rfl
  subst e;obtain⟨b,eb,hb⟩:=hp i hi;rw[eb];exact⟨b,_,rfl,dj.of (s _ _ hb),rfl,_,_,rfl,_,_,rfl,rfl,k _ (Same.refl _)⟩
 kp:=λi hi=>((Kp.refl _).set h0).set h1
noncomputable def Sb:Al1->Bool | .free=>true | _=>false
noncomputable def Vl:Al1->Bool | .cell=>true | _=>false
noncomputable def IC:Option Al1->Bool | some .cell=>true | _=>false
noncomputable def Ls:Option Al1->Bool | some .free=>true | _=>false
noncomputable def Dk(N:List Str)(idx:List Nat)(sc:List (Str×Al1))(XN:List Str)(qo:List (Str×Al1)):Bool:=
 sc.all (λy=> !(Vl y.2)&&(!(Sb y.2)||IC (qo.lookup y.1)))&&(N.length == idx.length)&&(N.zip idx).all λp=>(XN[p.2]? == aS p.1)&&Ls (sc.lookup p.1)&&IC (qo.lookup p.1)
theorem F9{α:Type}{x:Str}{v:α}:∀{l:List (Str×α)},l.lookup x=aS v->(x,v)∈l
 | (y,u)::l,h=>by
  rw[Af2] at h;cases e:x == y with
  | true=>
   rw[e] at h;cases h;rw[eq_of_beq e];exact Ab0
  | false=>
   rw[e] at h;exact Aa8 _ (F9 h)
theorem N6(h:Ls k=true):k=aS .free:=by
 unfold Ls at h;split at h
 .rfl
 .cases h
theorem IU(h:IC k=true):k=aS .cell:=by
 unfold IC at h;split at h
 .rfl
 .cases h
theorem Mx(h:Dk N idx sc XN qo=true):∀y∈sc,y.2≠ .cell:=λy hy e=>by
 simp only[Dk,Ab5,Ae0] at h;have:=(h.1.1 y hy).1;rw[e] at this;cases this
theorem Sh{qo:List (Str×Al1)}(h:Dk N idx sc XN qo=true):∀y∈sc,y.2= .free->qo.lookup y.1=aS .cell:=λy hy e=>by
 simp only[Dk,Ab5,Ae0] at h;have:=(h.1.1 y hy).2;rw[e] at this;exact IU (by simpa [Sb] using this)
theorem Os(h:Dk N idx sc XN qo=true):N.length=idx.length:=by
 simp only[Dk,Ab5] at h;exact eq_of_beq h.1.2
theorem W3{sc:List (Str×Al1)}{qo:List (Str×Al1)}(h:Dk N idx sc XN qo=true)(i:Nat)(y:Str)(hy:N[i]?=aS y):∃j,idx[i]?=aS j/\XN[j]?=aS y/\sc.lookup y=aS .free/\qo.lookup y=aS .cell:=by
 have hl:=Os h;simp only[Dk,Ab5,Ae0] at h;obtain⟨hi,e⟩:=Ab8.mp hy;have hi2:i<idx.length:=by omega
 have hm:(y,idx[i])∈N.zip idx:=by
  refine List.mem_iff_getElem.mpr ⟨i,by rw[List.length_zip];omega,?_⟩;rw[List.getElem_zip,e]
 obtain⟨⟨h1,h2⟩,h3⟩:=h.2 _ hm;exact⟨idx[i],by simp[hi2],eq_of_beq h1,N6 h2,IU h3⟩
noncomputable def bar(T:Addr)(H:Hp):Hp:=λb=>if b=T then aV else H b
theorem gC.same{T:Addr}(h:gC H T q)(s:Same H H'):gC H' T q:=by
 obtain⟨ps,h1,h2,h3⟩:=h;refine⟨ps,s _ _ h1,h2,λp cv e=>?_⟩;obtain⟨c',oc,e1,e2,e3⟩:=h3 p cv e;exact⟨c',oc,e1,s _ _ e2,e3⟩
end L2
namespace HT
open PySem PySem.Spec PyProof.Rows PySem.W
noncomputable def Lc(xs:Array Nat):Prop:=xs.toList.Pairwise (· < ·)
section
variable {prog:Program}{w:bg}{E:Value->aT->Prop}{s:aT}
noncomputable abbrev bt(w:bg):Bool:=w.params.followText "set-order"
end
end HT
namespace L2
open PySem PySem.Spec PyProof.Rows PySem.W
structure jQ(P:Program)(w:bg)(K:aU)(mg:Str->Option Value)(base:Heap)(k:Nat)(f:Addr)(sp:Sp):Prop where
 obj:FnAt f base\/Ak7 K (.ref f)=true
 run:∀(A:An2) (bw:List Env) (s:aT) (H:Hp) (u:Value) (v:V) (Q:VK),cJ k A->jf P w K mg base A bw s H->RelV v u->sp [v] H Q E0->An3 (aX P w) A (.call (.ref f) ⟨[u],[]⟩) (CR c6 bw P w H s Q E0) s
noncomputable def Qn(f:Addr)(sp:Sp)(to:TE)(t:TA):TE:=λσ H Q=>to σ H λv H1=>v= .ref f/\t σ H1 λvs H2=>∃x,vs=[x]/\sp [x] H2 Q E0
theorem RJ(L:jQ X.prog X.w X.K X.mg X.base k f sp)(hr:cJ k X.A)(ho:PE X o to)(ha:PA X [e] t)
  (ht:bh (.Call o [e] [] pos) X.env=(do callWith pos (<-bh o X.env) [] (An9 pos (aZ [e] X.env)) (backToKw pos (Az4 [] X.env))):=by rfl)
  (he:aZ [e] X.env=(false,bh e X.env)::aZ [] X.env:=by rfl):PE X (.Call o [e] [] pos) (Qn f sp to t):=by
 intro bu s σ H Q I h;rw[ht];refine Aa1 (bZ (ho bu s σ H _ I h) λu s1 ⟨x,H1,I1,rx,ex,q⟩=>?_);subst ex;obtain rfl:u=aY f:=rx;have key:∀(R:aT->Prop),(∀{s':aT} {H':Hp},Inv X bu σ H' s'->R s')->aW (aX X.prog X.w) X.A (spliced (An9 pos (aZ [e] X.env))) (λvs s₁=>R s₁/\aW (aX X.prog X.w) X.A (call (.ref f) ([]++vs)) (EP X bu σ Q) X.xe s₁) X.xe s1:=by
  intro R hR;refine bZ (ha pos bu s1 σ H1 _ I1 q) λus s2 ⟨vs,H2,I2,r,x,ev,q2⟩=>⟨hR I2,?_⟩;subst ev;obtain⟨u2,rfl,rv⟩:=Fh r;refine Ah2 (Ao3 (L.run X.A X.stack s2 H2 u2 x Q hr I2.oj rv q2) λr s' hq=>?_);cases r with
  | error e=>exact Aj2 hq
  | ok fl=>
   cases fl with
   | ret u=>exact I2.after hq
   | next=>exact Aj2 hq
   | brk=>exact Aj2 hq
   | cont=>exact Aj2 hq
 rcases L.obj with ho | ho
 .exact callWith_F (q:=f) (let ⟨oc,od,fd,sl,e⟩:=ho;⟨oc,od,fd,sl,I1.bk _ _ e⟩) (key (λs'=>FnAt f s'.heap) λI'=>let ⟨oc,od,fd,sl,e⟩:=ho;⟨oc,od,fd,sl,I'.bk _ _ e⟩) he rfl
 .exact An4 (h₀:=X.base) I.ok.mod.pA ho (key (λs'=>X.K.In s'.heap) λI'=>I'.dG) he rfl
section
variable {P:Program}{w:bg}{x:Str}{f:Addr}{s:aT}{E:XK}
theorem Mz{vs:List V}(hk:scope.kind= .function)(lT:scope.names.lookup x=aS .local)(hd:A.handled=aV)(e0:jf P w K mg base A bw s H)(C:kO N scope cl s.heap H vs)(rv:RelV v u)(qm:h'.Ns s.heap.objs.size λy=>([(x,u)]:List (Str×Value)).reverse.lookup y)(kp:∀b o,s.heap.get? b=aS o->h'.get? b=aS o):
  Inv (xY P w K mg base (x::N) qual scope f cd cl A bw s H E) [] (aS v::vs.map aS) H { s with heap:=h',toks:=tk }:=by
 have ur:∀b:Addr,b∉(xY P w K mg base (x::N) qual scope f cd cl A bw s H E).ex:=λb z=>bV (show b∈([]:List Addr) from z) (by simp);have ic:∀c v,s.heap.IsCell c v->h'.IsCell c v:=λc v ⟨o,e,d⟩=>⟨o,kp _ _ e,d⟩;refine⟨⟨e0.mod,hk,rfl,rfl,Aa6 _,C.inj,C.has,λy c z _=>(by cases z),λ_=>hd,Around.frames_deeper e0.frames, .inr ⟨rfl,rfl⟩,λb z=>bV z (ur b),e0.bs,e0.mH,λb _ _=>ur b,λb z=>bV z (ur b),e0.fO,e0.pB⟩,
  rfl,e0.bare,Un.kept kp,⟨_,qm,λi y v' h1 h2 h3=>?_⟩,λy c h=>?_,e0.bO.fresh (Aa6 _),λy c h=>(C.cell y c h).2,λp hp=>bV (show p∈([]:List (Addr×Obj)) from hp) (by simp),e0.bO.kept kp,by show (aS v::vs.map aS).length=(x::N).length;rw[Aa9,Aa9,Aa0,C.len]⟩
 .cases i with
  | zero=>
   have e1:x=y:=by
    have h1:(x::N)[0]?=aS y:=h1;simpa using h1
   have e2:v=v':=by simpa using h2
   subst e1 e2;refine⟨u,rv, .inl ⟨lT,?_⟩⟩;show ([(x,u)]:List (Str×Value)).reverse.lookup x=aS u;simp
  | succ i=>
   have h1:N[i]?=aS y:=by
    have h1:(x::N)[i+1]?=aS y:=h1;simpa using h1
   have h2:(vs.map aS)[i]?=aS (aS v'):=by simpa using h2
   have rH:vs[i]?=aS v':=by
    rw[Ac1] at h2;cases e:vs[i]? with
    | none=>rw[e] at h2;cases h2
    | some a=>rw[e] at h2;cases h2;rfl
   obtain⟨c,u,k,l,r,ce⟩:=C.val i y v' h1 rH;exact⟨u,r, .inr ⟨.inr k,c,l,ic _ _ ce⟩⟩
 .obtain⟨v,z⟩:=(C.cell y c h).1;exact⟨v,ic _ _ z⟩
theorem Xj{vs:List V}{tb:TE}(ho:s.heap.get? f=aS (kla_obj "<lambda>" qual params body scope cl pm c' pY))(je:s.heap.CodeRec (.ref c') qual)(hr:cJ (k+1) A)(e0:jf P w K mg base A bw s H)
  (hk:scope.kind= .function) (hco:scope.isCoroutine=false) (uU:scope.isGenerator=false) (gQ:∀y∈scope.names,y.2≠ .cell) (lT:scope.names.lookup x=aS .local) (qR:bindArgs (kla_fn "<lambda>" qual params body scope cl pm (.ref c') pY) ⟨[u],[]⟩=pure [(x,u)]) (C:kO N scope cl s.heap H vs) (rv:RelV v u)
  (hb:PE (xY P w K mg base (x::N) qual scope f (.ref c') cl A bw s H E0) body tb) (h:tb (aS v::vs.map aS) H Q):An3 (aX P w) A (.call (.ref f) ⟨[u],[]⟩) (CR c6 bw P w H s Q E0) s:=by
 have lim:s.heap.NoLimit:=e0.mod.nolimit.keeps λb o e=>(e0.bs b o e).1;refine kla_callFunE hr.depth ho rfl hco uU rfl je ?_;rw[qR];refine Ab2 (AE5 gQ (λy hy=>?_) (λh₁ qm vR=>⟨lim.fresh _ vR,?_⟩) hk)
 .rw[Ac9.mp hy];exact lT
 have kp:∀b o,s.heap.get? b=aS o->h₁.get? b=aS o:=λb o e=>vR.extBut b o (Ac8 (Ab1 e)) (Aa4 _ e);show An3 _ _ (.expr body (envX qual scope s.heap.objs.size f (.ref c') cl)) _ _;refine kla_codeExpr ?_;have I:Inv (xY P w K mg base (x::N) qual scope f (.ref c') cl A bw s H E0) [] (aS v::vs.map aS) H { s with heap:=h₁,toks:=s.toks+1 }:=Mz hk lT hr.hd e0 C rv qm kp;refine Ac7 (hb [] _ _ H Q I h) (λu s' hs=>?_) λe s' hs=>?_
 .obtain⟨v,H',J,rv,q⟩:=hs;exact⟨v,H',J.os,J.bare,J.base,J.bO,rv,q⟩
 .refine Ac7 hs (λ_ s2 z=>?_) λ_ s2 z=>?_
  .obtain⟨a,C,t,od,H',rfl,os,bare,un,bO,b,di,q⟩:=z;exact q.elim
  .obtain⟨a,C,t,od,H',rfl,os,bare,un,bO,b,di,q⟩:=z;exact q.elim
end
noncomputable def spL(c':Addr)(oc:Obj)(tb:TE)(vs:List V):Sp:=λus H Q _=>∃v,us=[v]/\H c'=aS (qQ c' oc)/\tb (aS v::vs.map aS) H Q
noncomputable def C2(h:Heap)(H:Hp)(fs:List Addr):Heap:=Ao2 h (vM h H++fs)
theorem Eu(e:h.get? b=aS o)(n:H b=aV)(nf:b∉fs):(C2 h H fs).get? b=aS o:=
 Ao7 _ e λhm=>by
  rcases Ad6.mp hm with z | z
  .have q:(H b).isSome=true:=(Ah0.mp z).2;rw[n] at q;simp at q
  .exact nf z
theorem P0(e:(C2 h H fs).get? b=aS o):h.get? b=aS o/\H b=none:=by
 have e':h.get? b=aS o:=Ay4 _ e;refine⟨e',?_⟩;cases q:H b with
 | none=>rfl
 | some x=>
  have hm:b∈vM h H:=Ah0.mpr ⟨Ae4.mpr (Ab1 e'),by simp[q]⟩;rw[show (C2 h H fs).get? b=aV from Al8 _ (Aq3 _ hm)] at e;cases e
theorem Gj{h base cg:Heap}:∀{l:List Env},h.FunFrames base l->(∀b∈cA l,cg.get? b=aV)->h.FunFrames cg l
 | [],_,_=>trivial
 | env::rest,⟨k,⟨L,o,e1,e2,e3,e4⟩,r⟩,n=>by
  have hf:cA (env::rest)=L::cA rest:=BC e1;exact⟨k,⟨L,o,e1,n L (by rw[hf];exact Ab0),e3,e4⟩,Gj r λb hb=>n b (by rw[hf];exact Aa8 _ hb)⟩
theorem Q1{s:aT}(I:Inv X bu σ H s):jf X.prog X.w X.K X.mg (C2 s.heap H (cA X.stack)) X.A X.stack s H:=by
 have sub:∀b o,X.base.get? b=aS o->(C2 s.heap H (cA X.stack)).get? b=aS o:=λb o e=>Eu (I.bs b o e).1 (I.bs b o e).2 λz=>by
  have:=(AB I.stack z).1;rw[e] at this;cases this
 have uV:∀{b:Addr} {m:Str->Option Value},X.base.Ns b m->(C2 s.heap H (cA X.stack)).Ns b m:=λ{b m} ⟨o,es,ep,e,r⟩=>⟨o,es,ep,sub _ _ e,r⟩;refine⟨I.ok.frames,⟨I.ok.mod.pA.keeps sub,uV I.ok.mod.glob,?_,?_⟩,λb o e=>P0 e,AG0 (hideAll_size _ _),Gj I.stack λb hb=>Al8 _ (Ac0 _ hb),I.dc,I.bO,I.bare⟩
 .obtain⟨mb,h1,h2⟩:=I.ok.mod.blt;exact⟨mb,uV h1,h2⟩
 .exact I.ok.mod.nolimit.keeps sub
theorem Se(h:to σ H λv H1=>v= .ref f/\t σ H1 λvs H2=>∃x,vs=[x]/\sp [x] H2 Q E0):Qn f sp to t σ H Q:=h
end L2
namespace HT
open PySem PySem.Spec PyProof.Rows PySem.W PySem.Calls PySem.Builtin PySem.Builtin.ObjectAttr PySem.Builtin.Getset_descriptor
section
variable {prog:Program}{w:bg}{E:Value->aT->Prop}{s:aT}{dx:Addr}{o:Obj}{f:Str}{vs:Array Value}
theorem Tr(X:K.In s.heap)(hd:(clsIn K C).any (·.hasDict)=true)(he:s.heap.get? a=aS o)(hc:o.cls= .ref C)(hf:o.data= .fields vs)(ho:o.dict=aS dx)(hn:s.heap.Ns1 dx mA)(hu:mA f=aS u):
  Looks M s.heap (inOwnDict f (.ref a)) (aS u):=by
 obtain⟨cd,je,uW⟩:=AH0 hd;obtain⟨oc,od,dat,sl⟩:=o;dsimp only at hc hf ho;subst hc hf ho;have L1:Looks M s.heap (ObjectAttr.ownDict a) (aS dx):=by
  unfold ObjectAttr.ownDict loadHead;refine(Looks.ld he).andThen ?_;unfold instanceDict;refine(Looks.ld he).andThen ?_;refine((AA1 X je).andThen ?_);rw[uW];exact .now
 unfold inOwnDict inDict;refine L1.andThen ?_;exact λA' Q' E' s' k q=>wpAny_nsGet ((hn.ns).keeps k) (by rw[hu];exact q)
theorem mW{Q:Value->aT->Prop}(k:ExcKind K C)(nf:Aj4 K (.ref C) f=aS aV)(X:K.In s.heap)(hd:(clsIn K C).any (·.hasDict)=true)(he:s.heap.get? a=aS o)(hc:o.cls= .ref C)(hf:o.data= .fields vs)(ho:o.dict=aS dx)(hn:s.heap.Ns1 dx mA)(hu:mA f=aS u)(hho:handedIn u=true)
  (h:Q u { s with toks:=s.toks+1 }):aW (aX prog w) A (getAttr (.ref a) f expr) Q E s:=by
 obtain⟨hh,g,d,t,os⟩:=s;have x:ExcAt a C hh:=⟨o,he,hc⟩;have L0:=x.type (M:=aX prog w);have L1:=Ao4 (M:=aX prog w) X k.ga;have L2:=Ao4 (M:=aX prog w) X k.ng;have L3:Looks (aX prog w) hh (find (.ref a) (.ref C) f) (.value u):=by
  unfold find;refine(Ao4 X nf).andThen ?_;refine Looks.andThen (a:=aV) .now (Looks.andThen (a:=aV) .now ?_);unfold ownThenClass;exact(Tr (s:=⟨hh,g,d,t,os⟩) X hd he hc hf ho hn hu).andThen (Looks.tag .now)
 unfold getAttr getAttrBy;refine Aa1 (wpAny_mkText (Ae8 (Aa1 (L0.at (Aa1 (L1.at ?_))))));show aW _ _ (AD5 (.ref a) _ (.ref C) (.builtin "BaseException.__getattribute__") true expr) _ _ _;unfold AD5;refine Aa1 (L2.at ?_);refine Aa1 (Aw0 (Ae8 ?_));have hx0:(expr&&onTheHeap (Value.builtin "BaseException.__getattribute__"))=false:=by cases expr <;> rfl
 unfold callGetattribute;rw[hx0];show aW _ _ (AF0 (.builtin "BaseException.__getattribute__") (.ref a) _) _ _ _;unfold AF0;rw[Ap5.ga.bind (.ref a)];refine Aa1 (Ab2 ?_);refine Ah2 (An0 Ap5.ga.plain PySem.F.entry_bexc_ga (Ko (s:=⟨hh,g,d,t+1,os⟩) k X x ?_));unfold Aq7.«object.__getattribute__»
 repeat lk
 show aW _ _ (handedOut u) _ _ _;exact handed_on (s:=⟨hh,g,d,t+1,os⟩) hho h
end
end HT
namespace L2
open PySem PySem.Spec PyProof.Rows PySem.W
structure kP(K:aU)(C:Addr):Prop extends HT.ExcKind K C where
 hd:(clsIn K C).any (·.hasDict)=true
noncomputable def jR(d:Addr)(fs:List (Str×V)):HO:= .ext λh=>∃mA,h.Ns1 d mA/\(∀f,fq (fs.lookup f) (mA f))/\Av1 mA (fs.map (·.1))
theorem UF{fs:List (Str×V)}(hn:h.Ns1 d mA)(hm:∀f,fq (fs.lookup f) (mA f))(hw:Av1 mA (fs.map (·.1))):bK P w H h d (jR d fs):=
 ⟨⟨mA,hn,hm,hw⟩,let ⟨o,_,_,e,_⟩:=hn;⟨o,e⟩,λ_ _ ⟨mA,hn,hm,hw⟩ k=>⟨mA,hn.at k,hm,hw⟩⟩
noncomputable def UR(K:aU)(f:Str)(to:TE):TE:=λσ H Q=>to σ H λv H1=>∃a C dx fs y,v= .ref a/\H1 a=aS (Gd a C (aS dx))/\H1 dx=aS (jR dx fs)/\fs.lookup f=aS y/\kP K C/\Aj4 K (.ref C) f=aS aV/\Q y H1
theorem OL(ho:PE X o to)(hb:Ao5 o f X.env (bh o X.env)=bh o X.env)(hK:X.K=K:=by rfl):PE X (.Attribute o f pos) (UR K f to):=by
 subst hK;intro bu s σ H Q I h;refine Lo hb (bZ (ho bu s σ H _ I h) λu s1 ⟨v,H1,I1,rv,a,C,dx,fs,y,ev,ha,iQ,hl,k,nf,q⟩=>?_);subst ev;obtain rfl:u=aY a:=rv;obtain⟨⟨ob,he,hc,hod,vs,uX⟩,_⟩:=(show bK X.prog X.w H1 s1.heap a (Gd a C (aS dx)) from I1.bO a _ ha);obtain⟨⟨mA,hn,hm,_⟩,_⟩:=(show bK X.prog X.w H1 s1.heap dx (jR dx fs) from I1.bO dx _ iQ);obtain⟨w',hw,jY⟩:=fq.some_of (v:=y) (o:=mA f) (by rw[<-hl];exact hm f);exact HT.mW k.toExcKind nf I1.dG k.hd he hc uX hod hn hw (HF jY) ⟨y,H1,I1.tok _,jY,q⟩
end L2
namespace HT
open PySem PySem.Spec PyProof.Rows PySem.W PySem.Calls PySem.Builtin PySem.Builtin.ObjectAttr PySem.Builtin.Getset_descriptor
noncomputable def GT:List Value:=[.type "ValueError", .type "Exception", .type "BaseException", .type "object"]
noncomputable def FL:List Value->Bool
 | .ref _::r=>FL r
 | l=>l == GT
theorem NQ(self:Value):refuseLoop self "__setattr__" GT=pure ():=by kernel_rfl
theorem HZ:∀{l:List Value},FL l=true->l=GT\/∃c r,l= .ref c::r/\FL r=true
 | [],e=> .inl (beq_iff_eq.mp e)
 | v::r,e=>by
  cases v with
  | ref c=>exact .inr ⟨c,r,rfl,e⟩
  | _=>exact .inl (beq_iff_eq.mp e)
theorem GG(self:Value):∀(n:Nat) (l:List Value),l.length<=n->FL l=true->refuseLoop self "__setattr__" l=pure ()
 | 0,l,h,e=>by
  have z:=Ah1.mp (Nat.le_zero.mp h);subst z;cases e
 | n+1,l,h,e=>by
  rcases HZ e with rfl | ⟨c,r,rfl,e'⟩
  .exact NQ self
  .rw[refuseLoop_ref];exact GG self n r (by simp at h;omega) e'
theorem PU{l:List Value}(n:Nat)(h:l.length<=n)(e:FL l=true):l.contains (.type "object")=true:=by
 induction n generalizing l with
 | zero=>
  have z:=Ah1.mp (Nat.le_zero.mp h);subst z;cases e
 | succ n ih=>
  rcases HZ e with rfl | ⟨c,r,rfl,e'⟩
  .decide
  .rw[AE2,ih (by simp at h;omega) e',Bool.or_true]
noncomputable def lU(K:Frag)(C:Addr):Bool:=(clsIn K C).any λcd=>FL cd.mro
section
variable {prog:Program}{w:bg}{E:Value->aT->Prop}{s:aT}{dx:Addr}{o:Obj}{f:Str}{v:Value}{vs:Array Value}
theorem OJ{Q:Unit->aT->Prop}(X:K.In s.heap)(hs:Aj4 K (.ref C) "__setattr__"=aS (aS (.builtin "object.__setattr__")))(hp:lU K C=true)(ht:As1 K C f=aS aV)(x:ExcAt a C s.heap)
  (h:∀b,aW (aX prog w) A.in1 (storeInOwnDict (.ref a) (.ref C) (.str f s.toks) f v b) (λfin s'=>match fin with | .done (.ret _)=>Q () s' | _=>False) E { s with toks:=s.toks+1 }):
  aW (aX prog w) A (setAttr (.ref a) f v) Q E s:=by
 have SF:=PySem.F.store_object;obtain⟨cd,hc,ho⟩:=AH0 hp;have ne:cd.mro.isEmpty=false:=by cases q:cd.mro with | nil=>rw[q] at ho;cases ho | cons _ _=>rfl
 have L0:=x.type (M:=aX prog w);have sub:Looks (aX prog w) s.heap (isInstance (.ref a) (.type "object")) true:=L0.andThen (looks_mroIn X (by unfold Aw5;rw[hc,AF4,bG (by rw[ne];decide),PU _ (Aa6 _) ho]));obtain⟨attr,ha,hr⟩:=Option.bind_eq_some_iff.mp ht;have hm:Looks (aX prog w) s.heap (mroOf (.ref C)) cd.mro:=(AA1 X hc).andThen .now;have L3:Looks (aX prog w) s.heap (storeTaker? attr) none:=by
  cases attr with
  | none=>cases hr;exact .now
  | some a=>
   obtain⟨b,hb,hbb⟩:=Ae5.mp hr;refine(looks_takesIn X hb).andThen ?_;cases b with
   | true=>cases hbb
   | false=>exact .now
 refine Aa1 (wpAny_mkText (Aa1 (Aa1 (Aa1 (L0 _ _ _ _ (λ_ _ e=>e) (Ao4 X hs _ _ _ _ (λ_ _ e=>e) (Ae8 ?_)))))));rw[SF.slot.bind];refine Aa1 (Ab2 (Aa1 (Ah2 (An0 SF.slot.plain SF.entry (@check_slot (aX prog w) _ _ { s with toks:=s.toks+1 } "object.__setattr__" "object" "__setattr__" (.ref a) [.str f s.toks,v] [] _ SF.kind SF.split sub (SF.args (.ref a) (.str f s.toks) v) ?_)))));show aW _ _ (Aq7.«object.__setattr__» ⟨[.ref a, .str f s.toks,v],[]⟩) _ _ _;rw[osa_eq,refuse_eq];refine Aa1 (Aa1 (Ao6 (s:={ s with toks:=s.toks+1 }) L0 (Aa1 (Ao6 (s:={ s with toks:=s.toks+1 }) hm ?_))));rw[GG _ _ _ (Aa6 _) ho];refine Ab2 (Aa1 (Ao6 (s:={ s with toks:=s.toks+1 }) L0 (Aa1 (Ao6 (s:={ s with toks:=s.toks+1 }) (Ao4 X ha) (Aa1 (Ao6 (s:={ s with toks:=s.toks+1 }) L3 ?_))))));refine Ac7 (h _) (λfin s' z=>?_) λe s' z=>z;cases fin with
 | again c'=>exact Aj2 z
 | done f=>
  cases f with
  | ret u=>exact Ab2 (Ab2 z)
  | next=>exact Aj2 z
  | brk=>exact Aj2 z
  | cont=>exact Aj2 z
theorem sd{ns:List Str}{Q:Unit->aT->Prop}(X:K.In s.heap)(hs:Aj4 K (.ref C) "__setattr__"=aS (aS (.builtin "object.__setattr__")))(hp:lU K C=true)(ht:As1 K C f=aS aV)(hd:(clsIn K C).any (·.hasDict)=true)
  (he:s.heap.get? a=aS o) (hc:o.cls= .ref C) (ho:o.dict=aS dx) (hn:s.heap.Ns1 dx mA) (hw:Av1 mA ns) (hsz:ns.length<=1000)
  (h:∀h',h'.Ns1 dx (λy=>if y=f then aS v else mA y)->Ao8 dx s.heap h'->Q () { s with heap:=h',toks:=s.toks+2 }):aW (aX prog w) A (setAttr (.ref a) f v) Q E s:=by
 refine OJ X hs hp ht ⟨o,he,hc⟩ λb=>?_;obtain⟨cd,je,uW⟩:=AH0 hd;obtain⟨oc,od,dat,sl⟩:=o;dsimp only at hc ho;subst hc ho;refine Aa1 (Ab2 (Aa1 (Aa1 (AE4 he (Aa1 (Ao6 (s:={ s with toks:=s.toks+1 }) (AA1 X je) ?_))))));rw[uW];refine Ab2 (a:=aS dx) (Aa1 (Ab2 (Aa1 ?_)));refine wpAny_nsSet1 (s:={ s with toks:=s.toks+1 }) hn λh' kJ lN=>?_;obtain⟨oD,esD,epD,xh,xj,xm⟩:=kJ.count (Au9 f v hw);refine Aa1 (wpAny_lookBehind xh (by rw[xj];exact pastItsLine_dict (Ab4 xm (by rw[Aa9,Aj9];omega))) ?_);exact Ab2 (h _ kJ lN)
theorem P8{cd:ClassData}{Q:Option Addr->aT->Prop}(X:K.In s.heap)(je:clsIn K C=aS cd)(uW:cd.hasDict=true)(he:s.heap.get? a=aS ⟨.ref C,aV, .fields vs,sl⟩)
  (h:Q (aS s.heap.objs.size) { s with heap:=(s.heap.push { cls:= .type "dict",data:= .dict #[] }).update a (λo=>{ o with dict:=aS s.heap.objs.size }) }):aW M A (instanceDict a true) Q E s:=by
 unfold instanceDict;refine Aa1 (AE4 he ?_);refine Aa1 (Ao6 (AA1 X je) ?_);rw[uW];dsimp only[Bool.not_true];rw[bG (show ¬ ((!true)=true) from Ab3)];have ht:(!true|| !typeHasDict (.ref C))=false:=rfl;rw[ht,bG Ab3];have se:=Aa4 { cls:= .type "dict",data:= .dict #[] } he;refine Aa1 (wpAny_alloc ?_);refine Aa1 (wpAny_update (s:={ s with heap:=s.heap.push { cls:= .type "dict",data:= .dict #[] } }) se ?_);unfold dictMade;exact Ab2 h
theorem MU:StrKeys (#[]:Array DictEntry):=λe he=>bV he (by simp)
theorem Lp:UniqKeys (#[]:Array DictEntry):=AA5
theorem qS{Q:Unit->aT->Prop}(X:K.In s.heap)(hs:Aj4 K (.ref C) "__setattr__"=aS (aS (.builtin "object.__setattr__")))(hp:lU K C=true)(ht:As1 K C f=aS aV)(hd:(clsIn K C).any (·.hasDict)=true)
  (he:s.heap.get? a=aS o) (hc:o.cls= .ref C) (hf:o.data= .fields vs) (ho:o.dict=aV)
  (h:∀h',h'.get? a=aS { o with dict:=aS s.heap.objs.size }->h'.Ns1 s.heap.objs.size (λy=>if y=f then aS v else aV)->(∀b ob,b≠a->s.heap.get? b=aS ob->h'.get? b=aS ob)->Q () { s with heap:=h',toks:=s.toks+2 }):
  aW (aX prog w) A (setAttr (.ref a) f v) Q E s:=by
 refine OJ X hs hp ht ⟨o,he,hc⟩ λb=>?_;obtain⟨cd,je,uW⟩:=AH0 hd;obtain⟨oc,od,dat,sl⟩:=o;dsimp only at hc ho hf;subst hc ho hf;have na:a≠s.heap.objs.size:=Ac8 (Ab1 he);have se:=Aa4 { cls:= .type "dict",data:= .dict #[] } he;refine Aa1 (Ab2 (Aa1 (P8 (s:={ s with toks:=s.toks+1 }) X je uW he ?_)));have ya:((s.heap.push { cls:= .type "dict",data:= .dict #[] }).update a (λo=>{ o with dict:=aS s.heap.objs.size })).Ns1 s.heap.objs.size (λ_=>aV):=by
  refine⟨{ cls:= .type "dict",data:= .dict #[] }, #[],0,?_,rfl,MU,Lp,λname=>rfl⟩;rw[Ad7 _ _ na];exact Ab9 _ rfl
 have uY:((s.heap.push { cls:= .type "dict",data:= .dict #[] }).update a (λo=>{ o with dict:=aS s.heap.objs.size })).get? a=aS ⟨.ref C,aS s.heap.objs.size, .fields vs,sl⟩:=Ae7 _ se rfl;have hk:∀b ob,b≠a->s.heap.get? b=aS ob->((s.heap.push { cls:= .type "dict",data:= .dict #[] }).update a (λo=>{ o with dict:=aS s.heap.objs.size })).get? b=aS ob:=λb ob hb e=>by
  rw[Ad7 _ _ (Ak9 hb)];exact Aa4 _ e
 generalize (s.heap.push { cls:= .type "dict",data:= .dict #[] }).update a (λo=>{ o with dict:=aS s.heap.objs.size })=h1 at ya uY hk ⊢;show aW _ _ (storeInDict s.heap.objs.size (.str f s.toks) f v) _ _ _;unfold storeInDict;refine Aa1 (Ab2 (Aa1 ?_));refine wpAny_nsSet1 (s:={ s with heap:=h1,toks:=s.toks+1 }) ya λh' kJ lN=>?_;obtain⟨oD,esD,epD,xh,xj,xm⟩:=kJ.count (Au9 f v PySem.Within.nil);refine Aa1 (wpAny_lookBehind xh (by rw[xj];exact pastItsLine_dict (Ab4 xm (by rw[Aa9,Aj9];simp))) ?_);exact Ab2 (h _ ((lN.2 _ na).trans uY) kJ λb ob hb e=>(lN.2 b (Ac8 (Ab1 e))).trans (hk b ob hb e))
end
end HT
namespace L2
open PySem PySem.Spec PyProof.Rows PySem.W
structure sf(K:aU)(C:Addr):Prop where
 sa:Aj4 K (.ref C) "__setattr__"=aS (aS (.builtin "object.__setattr__"))
 ov:HT.lU K C=true
 hd:(clsIn K C).any (·.hasDict)=true
noncomputable def iW(a C:Addr)(od:Option Addr):HO:= .ext λh=>∃t,h.get? a=aS ⟨.ref C,od, .fields #[.ref t, .none, .none, .none, .bool false, .none], #[]⟩
theorem Pf{t:Addr}(e:h.get? a=aS ⟨.ref C,od, .fields #[.ref t, .none, .none, .none, .bool false, .none], #[]⟩):bK P w H h a (iW a C od):=
 ⟨⟨t,e⟩,⟨_,e⟩,λ_ _ ⟨t,e⟩ k=>⟨t,k _ e⟩⟩
noncomputable def UM(K:aU)(f:Str)(to tv:TE):TS:=λD σ H=>tv σ H λy H1=>to σ H1 λx H2=>∃a C od,x= .ref a/\H2 a=aS (iW a C od)/\sf K C/\As1 K C f=aS aV/\
 ((od=aV/\∀dx,H2 dx=aV->D.nx σ (upd (upd H2 dx (jR dx [(f,y)])) a (iW a C (aS dx))))\/∃dx fs,od=aS dx/\H2 dx=aS (jR dx fs)/\fs.length<1000/\D.nx σ (upd H2 dx (jR dx (A9 f y fs))))
theorem Lk(ha:PE X o to)(hv:PE X value tv)(hs:Av3 value (aS (.Attribute o f pos')) pos.line X.env=pure false)(hK:X.K=K:=by rfl):
  PS X (.Assign [.Attribute o f pos'] value pos) (UM K f to tv):=by
 subst hK;intro bu s σ H D I h;refine AI4 (bZ (hv bu s σ H _ I h) λu s1 ⟨y,H1,I1,ry,q⟩=>bZ (ha bu s1 σ H1 _ I1 q) λov s2 ⟨x,H2,I2,rx,a,C,od,ex,ea,k,ht,q2⟩=>?_) hs;subst ex;obtain rfl:ov=aY a:=rx;obtain⟨⟨t,he⟩,_⟩:=(show bK X.prog X.w H2 s2.heap a (iW a C od) from I2.bO a _ ea);rcases q2 with ⟨rfl,q2⟩ | ⟨dx,fs,rfl,iQ,hl,q2⟩
 .refine HT.qS I2.dG k.sa k.ov ht k.hd he rfl rfl rfl λh' vZ qA keep=>⟨σ,_,?_,q2 s2.heap.objs.size I2.fresh⟩;have fr:=I2.fresh;generalize iQ:s2.heap.objs.size=dx at vZ qA fr ⊢;have na:a≠dx:=λz=>by rw[z,fr] at ea;cases ea
  have v7:∀b u,H2 b=aS u->(∀φ,u≠ .ext φ)->b≠a:=λb u e n z=>by rw[z,ea] at e;cases e;exact n _ rfl
  have yb:∀b u,H2 b=aS u->b≠dx:=λb u e z=>by rw[z,fr] at e;cases e
  have oD:∀b ob,s2.heap.get? b=aS ob->b≠dx:=λb ob e z=>by rw[<-iQ] at z;exact bV (Ab1 e) (by rw[z];exact Ag7 _)
  have eH:∀b,b≠a->b≠dx->upd (upd H2 dx (jR dx [(f,y)])) a (iW a C (aS dx)) b=H2 b:=λb h1 h2=>by rw[An h1,An h2]
  refine I2.un (t':=s2.toks+2) ⟨λb ob e hH hn hx=>?_,λb ob e hH hb hx=>?_,λb ob e hH hx=>?_,λb ob e hx=>?_,λb xs e=>?_,λb ob u e=>?_,λb ps e=>?_⟩ λb u e=>?_
  .exact keep b ob (λz=>by rw[z,ea] at hH;cases hH) e
  .exact⟨ob.slots,keep b ob (λz=>by rw[z,ea] at hH;cases hH) e⟩
  .rw[eH b (λz=>by rw[z,ea] at hH;cases hH) (oD b ob e)];exact hH
  .by_cases z:b=a
   .rw[z];exact⟨_,vZ⟩
   .exact⟨ob,keep b ob z e⟩
  .rw[eH b (v7 b _ e λφ z=>by cases z) (yb b _ e)];exact e
  .rw[eH b (v7 b _ e λφ z=>by cases z) (yb b _ e)];exact e
  .exact⟨#[],by rw[eH b (v7 b _ e λφ z=>by cases z) (yb b _ e)];simpa using e⟩
  .by_cases z:b=a
   .subst z;rw[upd_same] at e;cases e;exact Pf (t:=t) vZ
   .rw[An z] at e;by_cases z2:b=dx
    .subst z2;rw[upd_same] at e;cases e;refine UF qA (λg=>?_) (Au9 f _ PySem.Within.nil);show fq (Ai4 g [(f,y)]) (if g=f then aS _ else aV);rw[Af2];by_cases q:g=f
     .rw[bS q,q,beq_self_eq_true];exact ry
     .rw[bG q,show (g == f)=false from beq_eq_false_iff_ne.mpr q];exact Ak5
    .rw[An z2] at e;refine(I2.bO b u e).kc (λc v hc q=>keep c v ?_ q) (λc q=>?_) λc xs q=>?_
     .rcases hc with rfl | hc
      .exact z
      .exact v7 c _ hc λφ z=>by cases z
     .rw[eH c (v7 c _ q λφ z=>by cases z) (yb c _ q)];exact q
     .rw[eH c (v7 c _ q λφ z=>by cases z) (yb c _ q)];exact q
 .obtain⟨⟨mA,hn,hm,hw⟩,_⟩:=(show bK X.prog X.w H2 s2.heap dx (jR dx fs) from I2.bO dx _ iQ);refine HT.sd I2.dG k.sa k.ov ht k.hd he rfl rfl hn hw (by rw[Aa0];omega) λh' qA sb=>⟨σ,_,?_,q2⟩;refine I2.write (x:=dx) (e:=dx) (t':=s2.toks+2) (by rw[iQ];exact Ak5) (.inl rfl) (λb q hb z=>(sb.2 b hb).trans z) (let ⟨o,_,_,e,_⟩:=qA;⟨o,e⟩) (UF qA (λg=>?_) λg hg=>?_)
  .show fq ((A9 f y fs).lookup g) (if g=f then aS u else mA g);rw[E7];by_cases q:g=f
   .rw[bS q,bS q];exact ry
   .rw[bG q,bG q];exact hm g
  .by_cases q:g=f
   .rw[q];exact(DU f y fs).1
   .refine(DU f y fs).2 g (hw g λz=>hg ?_);show (if g=f then aS u else mA g)=aV;rw[bG q];exact z
end L2
namespace HT
open PySem PySem.Spec PyProof.Rows PySem.W PySem.Calls PySem.Builtin
noncomputable def jB(K:Frag)(C fi:Addr):Bool:=match K.lookup C with
 | some o=>(match o.data with
  | .cls cd=>(match cd.mro with
   | .ref C'::bm=>o.cls == .type "type"&&o.slots.toList.length == 6&&o.slots.toList[4]? == aS (aS (.builtin "ValueError.__new__"))&&C' == C&& !cd.hasDel&&tailIn K GT bm&&nsOkIn K cd.ns&&nsIn K cd.ns "__init__" == aS (aS (.ref fi))
   | _=>false)
  | _=>false)
 | _=>false
noncomputable def jZ(h:Heap)(C fi:Addr):Prop:=∃bm N nm q bs qT sn sub ab col dd k0 k1 k2 k3 k5 mN,h.get? C=aS (excClassObj nm q C N bs bm qT sn sub ab col dd k0 k1 k2 k3 k5 "ValueError.__new__")/\h.Ns N mN/\mN "__init__"=aS (.ref fi)/\OwnTail h GT bm
theorem NE{N:Addr}{n:Str}{v:Value}(X:K.In h)(G:h.Ns N mg)(e:nsIn K N n=aS (aS v)):mg n=aS v:=by
 obtain⟨o,es,ep,ho,hd,_,hf⟩:=G;unfold nsIn at e;split at e
 .rename_i c d yX n' sl q
  have:=X _ _ q;rw[ho] at this;cases this;cases hd;split at e
  .rename_i en he
   cases e;rw[<-hf];unfold nsFind findBy;rw[<-Array.find?_toList,he];rfl
  .split at e
   .cases e
   .cases e
 .cases e
theorem kR(X:K.In h)(q:jB K C fi=true):jZ h C fi:=by
 unfold jB at q;split at q
 .rename_i o ho
  obtain⟨c,dd,dt,⟨l⟩⟩:=o;split at q
  .rename_i cd je
   split at q
   .rename_i C' bm uZ
    simp only[Ab5,beq_iff_eq,AF5] at q;obtain⟨⟨⟨⟨⟨⟨⟨hc,hl⟩,h4⟩,rfl⟩,yc⟩,ht⟩,bO⟩,hni⟩:=q;obtain⟨nm,bs,mro,ns,qn,hd,sn,sub,ab,col,del⟩:=cd;dsimp only at uZ yc bO hni hc je hl h4;subst uZ yc hc je
    revert h4 ho
    refine L2.uQ (P:=λl=>l[4]?=aS (aS (.builtin "ValueError.__new__"))->K.lookup C'=aS ⟨.type "type",dd, .cls ⟨nm,bs, .ref C'::bm,ns,qn,hd,sn,sub,ab,col,false⟩,⟨l⟩⟩->jZ h C' fi) (λk0 k1 k2 k3 k4 k5 h4 ho=>?_) l hl;cases h4;exact⟨bm,ns,nm,qn,bs,hd,sn,sub,ab,col,dd,k0,k1,k2,k3,k5,_,X _ _ ho, .of_isNs (isNs_of_in X bO),NE X (.of_isNs (isNs_of_in X bO)) hni,tail_of_in X ht⟩
   .cases q
  .cases q
 .cases q
section
variable {prog:Program}{w:bg}{E:Value->aT->Prop}{s:aT}{t0:Addr}
theorem pZ{Q:Value->aT->Prop}(i:jZ s.heap C fi)(he:s.heap.get? a=aS ⟨.ref C,od, .fields #[.ref t0, .none, .none, .none, .bool false, .none], #[]⟩)
  (h:∀h',h'.get? a=aS ⟨.ref C,od, .fields #[.ref s.heap.objs.size, .none, .none, .none, .bool false, .none], #[]⟩->(∀b ob,b≠a->s.heap.get? b=aS ob->h'.get? b=aS ob)->Q .none { s with heap:=h' }):
  aW (aX prog w) A (call (.builtin "ValueError.__init__") [.ref a,u]) Q E s:=by
 obtain⟨bm,N,nm,q,bs,qT,sn,sub,ab,col,dd,k0,k1,k2,k3,k5,mN,hC,hN,hi,T⟩:=i;obtain⟨hh,g,d,t,os⟩:=s;have F:=Ap6;refine Ah2 (An0 F.init.plain F.initEntry (wpAny_check_init_subT F T hC he rfl ?_))
 wp_walk
 have se:=Aa4 { cls:= .type "tuple",data:= .seq #[u] } he;refine h _ (Ae7 _ se rfl) λb ob hb e=>?_;rw[Ad7 _ _ (Ak9 hb)];exact Aa4 _ e
theorem mX{rest:List Value}(X:K.In s.heap)(i:jZ s.heap C fi)(hf:typeIn K (.ref fi)=aS (.type "function"))(yd:rest.length<=1000)
  (h:An3 (aX prog w) (A.under (.builtin "type.__call__" ⟨.ref C::rest,[]⟩)) (.call (.ref fi) ⟨.ref (s.heap.objs.size+1)::rest,[]⟩) (InitBack (s.heap.objs.size+1) R)
   { s with heap:=(s.heap.push { cls:= .type "tuple",data:= .seq rest.toArray }).push { cls:= .ref C,data:= .fields #[.ref s.heap.objs.size, .none, .none, .none, .bool false, .none] } }):
  An3 (aX prog w) A (.call (.ref C) ⟨rest,[]⟩) R s:=by
 obtain⟨bm,N,nm,q,bs,qT,sn,sub,ab,col,dd,k0,k1,k2,k3,k5,mN,hC,hN,hi,T⟩:=i;obtain⟨hh,g,d,t,os⟩:=s;have F:=Ap6;have f1:=tc_lookup;have f2:=tc_bind (.ref C);have hT:(⟨hh,g,d,t,os⟩:aT).TypeIs (.ref C) "type":=⟨_,hC,rfl⟩;refine codeAny_of_tree ?_;show aW _ _ (callAny (.ref C) _) _ _ _
 repeat (any_goals (first | assumption | with_reducible refine Ag0 hC ?_ | wp_step))
 refine⟨rfl,?_⟩;refine codeAny_call_builtin_at (Aw9 _ (by decide +kernel)) entry_typeCall (wpAny_check_type_call_sub hC ?_);show aW _ _ (Aq7.«type.__call__» ⟨.ref C::rest,[]⟩) _ _ _
 repeat (first | with_reducible refine Ag0 hC ?_ | with_reducible refine wpAny_madeBy_exc hC ?_ | wp_step)
 refine codeAny_call_builtin_code (Aw9 _ F.quiet) (wpAny_check_new_subT F T hC ?_);refine codeAny_exc_new_subT F T hC ?_ (Ab4 yd (by decide));show aW _ _ _ _ _ _;have kp:∀b o,hh.get? b=aS o->((hh.push { cls:= .type "tuple",data:= .seq rest.toArray }).push { cls:= .ref C,data:= .fields #[.ref hh.objs.size, .none, .none, .none, .bool false, .none] }).get? b=aS o:=λb o e=>Aa4 _ (Aa4 _ e);have hC₁:=kp _ _ hC;have hn₁:=hN.keeps kp;have qU:((hh.push { cls:= .type "tuple",data:= .seq rest.toArray }).push { cls:= .ref C,data:= .fields #[.ref hh.objs.size, .none, .none, .none, .bool false, .none] }).get? (hh.objs.size+1)=aS { cls:= .ref C,data:= .fields #[.ref hh.objs.size, .none, .none, .none, .bool false, .none] }:=by heap_get
 have hcC:(aY C::bm).contains (.ref C)=true:=by simp
 have T₁:=T.keeps kp;unfold isInstance
 repeat (first | with_reducible refine Ag0 qU ?_ | (with_reducible refine AG3 hC₁ ?_;rw[hcC]) | wp_step)
 show aW _ _ (typeLookup (.ref C) _) _ _ _;refine wpAny_typeLookup_tail hC₁ hn₁ T₁ F.mroIs F.init.lookup ?_;rw[hi];have b1:=bind_fn (M:=aX prog w) (Frag.In.keeps X kp) (.ref (hh.objs.size+1)) hf
 repeat (first | with_reducible refine Ah2 ?_ | lk)
 refine Ao3 h λr s' z=>?_;rcases r with e | (v | _ | _ | _) <;> first | exact z | exact z.elim | skip;obtain⟨rfl,z⟩:=z;exact Ab2 (Ab2 z)
end
end HT
namespace L2
open PySem PySem.Spec PyProof.Rows PySem.W
noncomputable def WS(te:TE):TE:=λσ H Q=>te σ H λv H1=>(∃i:Int,v= .int i/\i.natAbs.log2<1920/\Q (.str (Ai9 (toString i))) H1)\/∃x:Str,v= .str x/\x.length<=100000/\Q (.str x) H1
theorem NI(he:PE X e te):PE X (.FormattedValue e (-1) aV pos) (WS te):=by
 intro bu s σ H Q I h;refine FormattedValue_plain (bZ (he bu s σ H _ I h) λu s1 ⟨v,H1,I1,rv,q⟩=>?_);rcases q with ⟨i,rfl,hi,q⟩ | ⟨x,rfl,hx,q⟩
 .obtain⟨t,rfl⟩:=rv;exact formatField_int_small hi ⟨.str _,H1,I1.tok _,⟨_,rfl⟩,q⟩
 .obtain⟨t,rfl⟩:=rv;exact formatField_str (λt' tk=>⟨.str _,H1,I1.tok _,⟨_,rfl⟩,q⟩) (Ab4 hx (by decide))
noncomputable def v8(X:Cx):List br->List TE->Prop
 | [],[]=>True
 | e::es,t::ts=>PE X e t/\v8 X es ts
 | _,_=>False
theorem O0:v8 X [] []:=trivial
theorem Cw{t:TE}(h:PE X e t)(hs:v8 X es ts):v8 X (e::es) (t::ts):=⟨h,hs⟩
noncomputable def Ks:List TE->Str->St->Hp->VK->Prop
 | [],out,_,H,Q=>Q (.str out) H
 | t::ts,out,σ,H,Q=>t σ H λv H1=>∃y,v= .str y/\(out++y).length<=100000/\Ks ts (out++y) σ H1 Q
theorem Qx(es:List br):∀(ts:List TE) (out:Str) (bu:List (Addr×Obj)) (s:aT) (σ:St) (H:Hp) (Q:VK),v8 X es ts->out.length<=100000->Inv X bu σ H s->Ks ts out σ H Q->
  aW (aX X.prog X.w) X.A (joinParts out (evalEach es X.env)) (EP X bu σ Q) X.xe s:=by
 induction es with
 | nil=>
  intro ts out bu s σ H Q p hl I h;cases ts with
  | nil=>exact joinParts_nil ⟨.str _,H,I.tok _,⟨_,rfl⟩,h⟩ (Ab4 hl (by decide))
  | cons t ts=>cases p
 | cons e es ih=>
  intro ts out bu s σ H Q p hl I h;cases ts with
  | nil=>cases p
  | cons t ts=>
   refine joinParts_cons (bZ (p.1 bu s σ H _ I h) λu s1 r=>?_);obtain⟨v,H1,I1,rv,y,ev,hz,q⟩:=r;subst ev;obtain⟨tk,rfl⟩:=rv;exact⟨Ab4 hz (by decide),ih ts (out++y) bu s1 σ H1 Q p.2 hz I1 q⟩
theorem KY(h:v8 X (v₁::v₂::rest) ts):PE X (.JoinedStr (v₁::v₂::rest) pos) (Ks ts Ar0):=by
 intro bu s σ H Q I hq;exact JoinedStr_many (Qx _ ts Ar0 bu s σ H Q h (by decide) I hq)
theorem QF(h:H a=aS o):upd H a o=H:=by
 funext b;by_cases z:b=a
 .rw[z,upd_same,h]
 .rw[An z]
structure tL(K:aU)(CL:Addr):Prop where
 sp:Ax2 K (.ref CL) "__getattribute__"=aS (aS (.builtin "type.__getattribute__"))
 rd:readsIn K CL (.type "type")=true
 fc:findCls K (.ref CL) (.type "type") "__init__"=aS (.val (.builtin "ValueError.__init__"))
noncomputable def Rx(K:aU)(t:TA):TE:=λσ H Q=>t σ H λvs H1=>∃a C od fi z,vs=[.ref a, .str z]/\H1 a=aS (iW a C od)/\HT.jB K C fi=true/\Q .bC H1
theorem MX{pl:Sem Bool}(hm:X.mg x=aS (.ref CL))(b:tL K CL)(ha:PA X [e₁,e₂] t)(hK:X.K=K:=by rfl)(hg:Gl X x:=by rfl)(hd:(x == ("__debug__":Str))=false:=by decide)
  (he:aZ [e₁,e₂] X.env=(false,bh e₁ X.env)::aZ [e₂] X.env:=by rfl) (kr:(An9 pos (aZ [e₂] X.env)).any (·.1)=false:=by rfl)
  (ht:bh (.Call (.Attribute (.Name x p) "__init__" apos) [e₁,e₂] [] pos) X.env=(do
   let ov <-bh (.Name x p) X.env
   standAt apos.atName
   let (f,first) <-Ax4 [ov] (getMethod ov "__init__" pl)
   callWith pos f first (An9 pos (aZ [e₁,e₂] X.env)) (backToKw pos (Az4 [] X.env))):=by rfl):
  PE X (.Call (.Attribute (.Name x p) "__init__" apos) [e₁,e₂] [] pos) (Rx K t):=by
 subst hK;intro bu s σ H Q I h;refine PySem.W.methodCall_KW (pl:=pl) (DE I hg hm ?_ hd) ht;refine method_cls I.dG b.sp (cls_value I.dG b.rd b.fc (by decide +kernel) ?_);have I0:Inv X bu σ H { s with toks:=s.toks+1 }:=I.tok _;refine AC3 (bZ (ha pos bu _ σ H _ I0 h) λus s1 ⟨vs,H1,I1,r1,a,C,od,fi,z,ev,ea,hi,q⟩=>?_) he kr;subst ev;obtain⟨u1,u2,rfl,r1',r2'⟩:=Ol r1;obtain rfl:u1=aY a:=r1';obtain⟨⟨t0,hea⟩,_⟩:=(show bK X.prog X.w H1 s1.heap a (iW a C od) from I1.bO a _ ea);refine HT.pZ (HT.kR I1.dG hi) hea λh' vZ keep=>⟨.bC,H1,?_,rfl,q⟩;have J:=I1.write (x:=a) (e:=a) (o:=iW a C od) (t':=s1.toks) (by rw[ea];exact Ak5) (.inl rfl) (λb ob hb e=>keep b ob hb e) ⟨_,vZ⟩ (Pf vZ);rw[QF ea] at J;exact J
section
variable {P:Program}{w:bg}{f:Addr}{E:XK}
theorem RT{e:Addr}(bO:fM P w H h)(ea:H e=aS (iW e C od)):fM P w (bar e H) h:=λb u eb=>by
 have hb:b≠e:=λz=>by
  have:=(bS z).symm.trans eb;cases this
 have eb:H b=aS u:=(bG hb).symm.trans eb;have ne:∀c v,H c=aS v->(∀φ,v≠ .ext φ)->c≠e:=λc v q n z=>by rw[z,ea] at q;cases q;exact n _ rfl
 exact(bO b u eb).kc (λc v _ q=>q) (λc q=>(bG (ne c _ q λφ z=>by cases z)).trans q) λc xs q=>(bG (ne c _ q λφ z=>by cases z)).trans q
theorem P3{s:aT}{e t:Addr}(I:Inv (AZ (cW P w) P w K mg base N qual scope f cd A bw s₀ H₀ E) bu σ H s)
  (he:s.heap.get? e=aS ⟨.ref C,od, .fields #[.ref t, .none, .none, .none, .bool false, .none], #[]⟩) (ea:H e=aS (iW e C od)) (new:s₀.heap.get? e=aV) (q:E (.ref C) od (bar e H)):
  (AZ (cW P w) P w K mg base N qual scope f cd A bw s₀ H₀ E).xe (.ref e) s:=by
 have kC:(envOfC qual scope s₀.heap.objs.size f cd).frame=aS s₀.heap.objs.size:=rfl;have lS:cA (envOfC qual scope s₀.heap.objs.size f cd::bw)=s₀.heap.objs.size::cA bw:=BC kC;have ye:(Ao2 s.heap (e::cA (envOfC qual scope s₀.heap.objs.size f cd::bw))).get? e=none:=Al8 _ Ab0;have key:=wpAny_leaving_firstW (M:=aX P w) (A:=A.deeper (envOfC qual scope s₀.heap.objs.size f cd)) (E:=λ_ _=>False) (s:=s) (base:=Ao2 s.heap (e::cA (envOfC qual scope s₀.heap.objs.size f cd::bw))) (a0:= .ref t)
  (Q:=λ_ s'=>∃h2,s'={ s with heap:=h2 }/\Heap.LeftW (Ao2 s.heap (e::cA (envOfC qual scope s₀.heap.objs.size f cd::bw))) (envOfC qual scope s₀.heap.objs.size f cd::bw) e (.ref C) (.ref t) s.heap h2)
  I.ok.frames (Hn I.stack λb hb=>Al8 _ (Aa8 _ hb)) kC he (λb o e=>Ay4 _ e) ye rfl rfl rfl λh2 hl=>⟨h2,rfl,hl⟩
 refine Ac7 (B6 (Gr _ _) key) (λ_ s' ⟨⟨h2,es,hl⟩,kd⟩=>?_) λ_ _ z=>z.1.elim;subst es;obtain⟨k1,⟨_,_,k2⟩,k3,ups⟩:=hl;have ib:Un (cA bw) [] H₀ H s₀.heap s.heap:=I.base;have nl:∀b o,s₀.heap.get? b=aS o->b≠s₀.heap.objs.size:=λb o e=>Ac8 (Ab1 e);have nE:∀b o,s₀.heap.get? b=aS o->b≠e:=λb o q z=>by rw[z,new] at q;cases q
 have mV:∀b o,s.heap.get? b=aS o->b≠e->b∉cA (envOfC qual scope s₀.heap.objs.size f cd::bw)->h2.get? b=aS o:=λb o q h1 h3=>k1 b o (Ao7 _ q λz=>by
  rcases Aa7.mp z with z | z
  .exact h1 z
  .exact h3 z)
 have eU:∀b o,s₀.heap.get? b=aS o->b∉cA bw->b∉cA (envOfC qual scope s₀.heap.objs.size f cd::bw):=λb o e hn z=>by
  rw[lS] at z;rcases Aa7.mp z with z | z
  .exact nl b o e z
  .exact hn z
 have isin:∀b,b∈cA bw->b∈cA (envOfC qual scope s₀.heap.objs.size f cd::bw):=λb hb=>by rw[lS];exact Aa8 _ hb
 have u6:∀b v,H b=aS v->(∀φ,v≠ .ext φ)->b≠e:=λb v q n z=>by rw[z,ea] at q;cases q;exact n _ rfl
 have kT:∀b,bar e H b≠aV->b≠e/\H b≠none:=λb hb=>by
  by_cases z:b=e
  .exact bV (bS z) hb
  .exact⟨z,λq=>hb ((bG z).trans q)⟩
 have fl:Ao1 (Ao2 s.heap (e::cA (envOfC qual scope s₀.heap.objs.size f cd::bw))) bw e (.ref C) (.ref t) h2:=⟨k1,ye,k2,k3⟩;refine⟨e,C,t,od,bar e H,rfl,I.os,I.bare,?_,(RT I.bO ea).on λb u hb q=>mV b u q (kT b hb).1 (λz=>(kT b hb).2 (I.dc b z)),⟨_,fl,λb hb hn o q=>?_⟩,eF.on ⟨_,he,rfl, .inl rfl⟩ kd (let ⟨o,e,_⟩:=fl.there;⟨o,e⟩),q⟩
 .refine⟨λb o q hH hn _=>?_,λb o q hH hb _=>?_,λb o q hH _=>?_,λb o q _=>?_,λb xs q=>?_,λb o u q=>?_,λb ps q=>?_⟩
  .exact mV b o (ib.keep b o q hH hn (by simp)) (nE b o q) (eU b o q hn)
  .obtain⟨sl,e1⟩:=ib.slot b o q hH hb (by simp);obtain⟨_,o',e',nf⟩:=AB I.stack (isin b hb);rw[e1] at e';cases e';obtain⟨oF,e3⟩:=ups b _ e1 nf;exact⟨oF,e3⟩
  .exact(bG (nE b o q)).trans (ib.free b o q hH (by simp))
  .obtain⟨o1,e1⟩:=ib.there b o q (by simp);by_cases hb:b∈cA bw
   .obtain⟨_,o',e',nf⟩:=AB I.stack (isin b hb);obtain⟨oF,e3⟩:=ups b _ e' nf;exact⟨_,e3⟩
   .exact⟨o1,mV b o1 e1 (nE b o q) (eU b o q hb)⟩
  .have:=ib.gY b xs q;exact(bG (u6 b _ this λφ z=>by cases z)).trans this
  .have:=ib.gz b o u q;exact(bG (u6 b _ this λφ z=>by cases z)).trans this
  .obtain⟨m,this⟩:=ib.gB b ps q;exact⟨m,(bG (u6 b _ this λφ z=>by cases z)).trans this⟩
 .have nS:b≠e:=by
   rcases hb with hb | ⟨o1,e1⟩
   .exact(kT b hb).1
   .exact nE b o1 e1
  have kJ:b∉cA (envOfC qual scope s₀.heap.objs.size f cd::bw):=λz=>by
   rcases hb with hb | ⟨o1,e1⟩
   .exact(kT b hb).2 (I.dc b z)
   .exact eU b o1 e1 hn z
  obtain⟨o2,e2⟩:∃o2,s.heap.get? b=aS o2:=by
   rcases hb with hb | ⟨o1,e1⟩
   .cases hx:H b with
    | none=>exact bV hx (kT b hb).2
    | some u=>exact FG (I.bO b u hx)
   .exact ib.there b o1 e1 (by simp)
  have e3:=mV b o2 e2 nS kJ;have q:h2.get? b=aS o:=q;rw[q] at e3;cases e3;exact Ao7 _ e2 λz=>by
   rcases Aa7.mp z with z | z
   .exact nS z
   .exact kJ z
end
end L2
namespace HT
open PySem PySem.Spec PyProof.Rows PySem.W PySem.Calls PySem.Builtin
theorem oG{Q:Flow->aT->Prop}(hh:A.handled=aV)
  (h:aW M A x (λv s₁=>∃e t od,v= .ref e/\jZ s₁.heap C fi/\s₁.heap.get? e=aS ⟨.ref C,od, .fields #[.ref t, .none, .none, .none, .bool false, .none], #[]⟩/\E (.ref e) s₁) E s):
  aW M A (raiseStmt env (aS x) aV) Q E s:=by
 unfold raiseStmt;refine Aa1 (Ac7 h (λv s₁ h₁=>?_) λ_ _ x=>x);obtain⟨e,t,od,rfl,⟨bm,N,nm,q,bs,qT,sn,sub,ab,col,dd,k0,k1,k2,k3,k5,mN,hC,hN,hi,T⟩,he,hE⟩:=h₁;have hcB:(aY C::bm).contains (.type "BaseException")=true:=by rw[AE2,T.hasType Ap6.hasBase,Bool.or_true]
 obtain⟨hp,g,d,tk,os⟩:=s₁
 repeat (first | with_reducible refine Ag0 he ?_ | with_reducible refine Ag0 hC ?_ | (with_reducible refine AG3 hC ?_;rw[hcB]) | wp_step)
 exact wpAny_raiseNew_none hh hE
end HT
namespace L2
open PySem PySem.Spec PyProof.Rows PySem.W
structure zD(K:aU)(C fi:Addr):Prop where
 wg:HT.jB K C fi=true
 fn:AI1 K (.ref fi)=true
 kp:Ak7 K (.ref C)=true
noncomputable def FR(E:XK)(C:Addr)(sp:Sp)(t:TA):TS:=λ_ σ H=>t σ H λvs H1=>vs.length<=900/\∀a,H1 a=aV->sp (.ref a::vs) (upd H1 a (iW a C aV)) (λv H2=>v= .bC/\∃od,H2 a=aS (iW a C od)/\E (.ref C) od (bar a H2)) E0
theorem PY{E:XK}
  (hm:mg x=aS (.ref C)) (M:zD K C fi) (F:bQ P w K mg base c6 k fi fd ps sp) (hb:Binds K fd ps []) (hr:cJ (k+1) (A.deeper (envOfC qual scope s₀.heap.objs.size f cd)))
  (ha:PA (AZ (cW P w) P w K mg base N qual scope f cd A bw s₀ H₀ E) (e₀::rest) t)
  (he:aZ (e₀::rest) (envOfC qual scope s₀.heap.objs.size f cd)=(false,bh e₀ (envOfC qual scope s₀.heap.objs.size f cd))::aZ rest (envOfC qual scope s₀.heap.objs.size f cd):=by rfl)
  (kr:(An9 dU (aZ rest (envOfC qual scope s₀.heap.objs.size f cd))).any (·.1)=false:=by rfl)
  (hg:Gl (AZ (cW P w) P w K mg base N qual scope f cd A bw s₀ H₀ E) x:=by rfl) (hd:(x == ("__debug__":Str))=false:=by decide):
  PS (AZ (cW P w) P w K mg base N qual scope f cd A bw s₀ H₀ E) (.Raise (aS (.Call (.Name x np) (e₀::rest) [] dU)) aV pos) (FR E C sp t):=by
 intro bu s σ H D I h;rw[arm_exec_Raise];refine Aa1 (Ag1 ?_);show aW _ _ (raiseStmt _ (aS (do let v <-bh (.Call (.Name x np) (e₀::rest) [] dU) (envOfC qual scope s₀.heap.objs.size f cd);standAt pos;pure v)) aV) _ _ _;refine HT.oG (C:=C) (fi:=fi) (I.ok.hd rfl) (Aa1 (Ac7 (Q:=λv s₁=>∃e t od,v= .ref e/\HT.jZ s₁.heap C fi/\s₁.heap.get? e=aS ⟨.ref C,od, .fields #[.ref t, .none, .none, .none, .bool false, .none], #[]⟩/\(AZ (cW P w) P w K mg base N qual scope f cd A bw s₀ H₀ E).xe (.ref e) s₁) ?_ (λv s₃ h₃=>Aa1 (Ag1 (Ab2 h₃))) λ_ _ x=>x));refine Af4 (DE I hg hm ?_ hd);refine An4 (h₀:=base) I.ok.mod.pA M.kp (bZ (ha dU bu s σ H _ I h) λus s1 ⟨vs,H1,I1,r,hl,q⟩=>⟨I1.dG,?_⟩) he kr;have hq:=q (s1.heap.objs.size+1) (I1.bO.fresh (Ag5 _));have rS:us.length<=1000:=by rw[<-r.length];omega
 have kp:∀b o,s1.heap.get? b=aS o->((s1.heap.push { cls:= .type "tuple",data:= .seq us.toArray }).push { cls:= .ref C,data:= .fields #[.ref s1.heap.objs.size, .none, .none, .none, .bool false, .none] }).get? b=aS o:=λb o e=>Aa4 _ (Aa4 _ e);have qU:((s1.heap.push { cls:= .type "tuple",data:= .seq us.toArray }).push { cls:= .ref C,data:= .fields #[.ref s1.heap.objs.size, .none, .none, .none, .bool false, .none] }).get? (s1.heap.objs.size+1)=aS { cls:= .ref C,data:= .fields #[.ref s1.heap.objs.size, .none, .none, .none, .bool false, .none] }:=by heap_get
 have I2:=I1.laid (a:=s1.heap.objs.size+1) (o:=iW (s1.heap.objs.size+1) C aV) (t':=s1.toks) kp (Ag5 _) (Pf qU);have r2:Vals (V.ref (s1.heap.objs.size+1)::vs) (aY (s1.heap.objs.size+1)::us):= .cons rfl r;have hlen:(aY (s1.heap.objs.size+1)::us).length=ps.length:=by
  have e:=r2.length;rw[F.len _ _ _ _ hq] at e;exact e.symm
 refine Ah2 (HT.mX I1.dG (HT.kR I1.dG M.wg) (beq_iff_eq.mp M.fn) rS (Ao3 (F.run _ _ _ _ ⟨aY (s1.heap.objs.size+1)::us,[]⟩ (aY (s1.heap.objs.size+1)::us) _ _ E0 (hr.make C us [])
  (I2.oj.make C us []) (by have:=hb _ (aY (s1.heap.objs.size+1)::us) I2.dG (by simpa using hlen);simpa using this) r2 hq) λr s' mJ=>?_))
 cases r with
 | error e=>exact Aj2 mJ
 | ok fl=>
  cases fl with
  | ret u=>
   obtain⟨v,H',I3,rv,ev,od,e3,q3⟩:=I2.after mJ;subst ev;obtain⟨⟨t0,he3⟩,_⟩:=(show bK P w H' s'.heap (s1.heap.objs.size+1) (iW (s1.heap.objs.size+1) C od) from I3.bO _ _ e3);refine⟨rv,⟨s1.heap.objs.size+1,t0,od,rfl,HT.kR I3.dG M.wg,he3,P3 I3 he3 e3 ?_ q3⟩⟩;exact AC2 (Ab4 I1.sz (Ag5 _))
  | next=>exact Aj2 mJ
  | brk=>exact Aj2 mJ
  | cont=>exact Aj2 mJ
structure lD(P:Program)(w:bg)(K:aU)(mg:Str->Option Value)(base:Heap)(k:Nat)(f:Addr)(fd:Am7)(ps:List Str)(sp:Sp):Prop where
 len:∀vs H Q E,sp vs H Q E->vs.length=ps.length
 run:∀(A:An2) (bw:List Env) (s:aT) (H:Hp) (args:Args) (us:List Value) (vs:List V) (Q:VK) (E:XK),A.depth+3*k+5<recursionLimit->A.units+16*k+200<cLine->jf P w K mg base A bw s H->AF2 s fd args (ps.zip us)->Vals vs us->sp vs H Q E->
  An3 (aX P w) A (.call (.ref f) args) (CR c6 bw P w H s Q E) s
theorem lD.ok(F:lD P w K mg base k f fd ps sp):bQ P w K mg base c6 k f fd ps sp:=⟨F.len,λA bw s H args us vs Q E hr=>F.run A bw s H args us vs Q E hr.dp hr.un⟩
noncomputable def Cx.loud(X:Cx):Cx:={ X with calm:=false }
theorem cR.okA{st:Stmt}(F:cR K x qual st f fd)(S:bz N ps (Ah st))(len:∀vs H Q E,sp vs H Q E->vs.length=ps.length)
  (jz:∀(gk:Value) (A:An2) (bw:List Env) (s:aT) (H:Hp) (vs:List V) (Q:VK) (E:XK),A.units<cLine->sp vs H Q E->
   ∃t,lK (AZ c6 P w K mg base N qual (Ah st) f gk A bw s H E).uc.loud (CM st) t/\t { nx:=λ_ H'=>Q .bC H',rt:=Q } (start N vs) H):lD P w K mg base (k+1) f fd ps sp:=by
 obtain⟨oc,od,kV,doc,pm,an,gk,ct,qk,rfl,lk,je⟩:=F.ex;refine⟨len,λA bw s H args us vs Q E hdp hun e0 hb r oq=>?_⟩;have hl:=len _ _ _ _ oq;have KX:K.In s.heap:=e0.mod.pA.keeps λb o e=>(e0.bs b o e).1;have lim:s.heap.NoLimit:=e0.mod.nolimit.keeps λb o e=>(e0.bs b o e).1;have qC:∀y∈ps.zip us,(Ah st).names.lookup y.1=aS .local\/((Ah st).names.lookup y.1=aS .cell/\((cellsFrom (s.heap.objs.size+1) (Ah st).names []).lookup y.1).isSome=true):=λ⟨n,v⟩ hy=>by
  rcases S.par n (AA2 hy).1 with q | q
  .exact .inl q
  .exact .inr ⟨q,Ay7 _ _ _ (.inl q)⟩
 refine codeAny_call_function (by omega) (KX _ _ lk) rfl S.co S.gen rfl (PySem.W.codeRec_of KX je) (hb _ _ _ _ ?_);refine wpAny_newFunctionEnv_cells S.kind qC λenv he s1 x=>?_;subst he;refine⟨lim.keeps x.toInCall.keep,codeAny_func ?_⟩;obtain⟨t,ht,hq⟩:=jz gk A bw s H vs Q E (by omega) oq;have e1:jf P w K mg base { A with handled:=aV } bw s H:=⟨e0.frames,e0.mod,e0.bs,e0.mH,e0.fO,e0.pB,e0.bO,e0.bare⟩;have J:Inv (AZ c6 P w K mg base N qual (Ah st) f gk { A with handled:=aV } bw s H E) [] (start N vs) H s1:=Kl S rfl e1 hl r x;have I:Inv (AZ c6 P w K mg base N qual (Ah st) f gk A bw s H E).uc.loud [] (start N vs) H s1:=
  ⟨⟨J.ok.mod,J.ok.kind,J.ok.glob,J.ok.blt,J.ok.above,J.ok.inj,J.ok.has,J.ok.rB,λz=>(by cases z),J.ok.frames,J.ok.sS,J.ok.sU,J.ok.bs,J.ok.mH,J.ok.lJ,J.ok.lq,J.ok.fO,J.ok.pB⟩,J.os,J.bare,J.base,J.loc,J.cell,J.free,J.dH,J.pin,J.bO,J.len⟩
 refine Ac7 (ht [] s1 (start N vs) H _ I hq) (λfl s' hs=>?_) λe s' hs=>hs.elim;have fin:∀{σ':St} {H':Hp} {v:V} {u:Value},Inv (AZ c6 P w K mg base N qual (Ah st) f gk A bw s H E).uc.loud [] σ' H' s'->RelV v u->Q v H'->CE bw P w H s Q u s':=
  λ{σ' H' v u} J rv q=>⟨v,H',J.os,J.bare,J.base,J.bO,rv,q⟩
 cases fl with
 | ret u=>
  obtain⟨v,σ',H',J,rv,q⟩:=hs;exact fin J rv q
 | next=>
  obtain⟨σ',H',J,q⟩:=hs;exact fin (v:=V.bC) (u:=Aj8) J rfl q
 | brk=>
  obtain⟨_,_,_,q⟩:=hs;exact Aj2 q
 | cont=>
  obtain⟨_,_,_,q⟩:=hs;exact Aj2 q
noncomputable def B5(P:Program)(w:bg)(K:aU)(mg:Str->Option Value)(base:Heap)(x:Str)(C:Addr)(k:Nat)(ps:List Str)(sp:Sp):Prop:=
 ∃fi fd,mg x=aS (.ref C)/\zD K C fi/\lD P w K mg base k fi fd ps sp/\Binds K fd ps []
theorem Bq{E:XK}
  (h:B5 P w K mg base x C k ps sp) (hr:cJ (k+1) (A.deeper (envOfC qual scope s₀.heap.objs.size f cd))) (ha:PA (AZ (cW P w) P w K mg base N qual scope f cd A bw s₀ H₀ E) (e₀::rest) t)
  (he:aZ (e₀::rest) (envOfC qual scope s₀.heap.objs.size f cd)=(false,bh e₀ (envOfC qual scope s₀.heap.objs.size f cd))::aZ rest (envOfC qual scope s₀.heap.objs.size f cd):=by rfl)
  (kr:(An9 dU (aZ rest (envOfC qual scope s₀.heap.objs.size f cd))).any (·.1)=false:=by rfl)
  (hg:Gl (AZ (cW P w) P w K mg base N qual scope f cd A bw s₀ H₀ E) x:=by rfl) (hd:(x == ("__debug__":Str))=false:=by decide):
  PS (AZ (cW P w) P w K mg base N qual scope f cd A bw s₀ H₀ E) (.Raise (aS (.Call (.Name x np) (e₀::rest) [] dU)) aV pos) (FR E C sp t):=by
 obtain⟨fi,fd,hm,M,F,hb⟩:=h;exact PY hm M F.ok hb hr ha he kr hg hd
section
variable {Q:VK}{D:Ends}{f:Str}{tv:TE}{E:XK}{ts:List TE}{out:Str}
theorem Gk(h:Aj4 K (.ref C) f=aS aV):As1 K C f=aS none:=by unfold As1;rw[h];rfl
theorem Nt(h:t σ H λvs H1=>∃a C od fi z,vs=[.ref a, .str z]/\H1 a=aS (iW a C od)/\HT.jB K C fi=true/\Q .bC H1):Rx K t σ H Q:=h
theorem Lj(h:tv σ H λy H1=>to σ H1 λx H2=>∃a C od,x= .ref a/\H2 a=aS (iW a C od)/\sf K C/\As1 K C f=aS aV/\
 ((od=aV/\∀dx,H2 dx=aV->D.nx σ (upd (upd H2 dx (jR dx [(f,y)])) a (iW a C (aS dx))))\/∃dx fs,od=aS dx/\H2 dx=aS (jR dx fs)/\fs.length<1000/\D.nx σ (upd H2 dx (jR dx (A9 f y fs))))):UM K f to tv D σ H:=h
theorem Pe(h:to σ H λv H1=>∃a C dx fs y,v= .ref a/\H1 a=aS (Gd a C (aS dx))/\H1 dx=aS (jR dx fs)/\fs.lookup f=aS y/\kP K C/\Aj4 K (.ref C) f=aS aV/\Q y H1):UR K f to σ H Q:=h
theorem NW(h:te σ H λv H1=>(∃i:Int,v= .int i/\i.natAbs.log2<1920/\Q (.str (Ai9 (toString i))) H1)\/∃x:Str,v= .str x/\x.length<=100000/\Q (.str x) H1):WS te σ H Q:=h
theorem DD(h:te σ H λv H1=>∃y,v= .str y/\(out++y).length<=100000/\Ks ts (out++y) σ H1 Q):Ks (te::ts) out σ H Q:=h
theorem KH(h:Q (.str out) H):Ks [] out σ H Q:=h
theorem Bz(h:t σ H λvs H1=>vs.length<=900/\∀a,H1 a=aV->sp (.ref a::vs) (upd H1 a (iW a C aV)) (λv H2=>v= .bC/\∃od,H2 a=aS (iW a C od)/\E (.ref C) od (bar a H2)) E0):FR E C sp t D σ H:=h
end
end L2
namespace L2
open PySem PySem.Spec PyProof.Rows
theorem Dv{t:S5}{Q:St->Hp->Prop}(h:to σ H λo H1=>ti σ H1 λi H2=>t o i v H2 λH3=>Q σ H3):W8 to ti t v σ H Q:=h
noncomputable def JU(base:Heap)(l:List Env)(e:Addr)(cls a0:Value)(h:Heap):Prop:=base.StaysIn h/\base.get? e=aV/\h.FunFrames base l/\∃fl,h.TracedAtW base e cls a0 fl
section
variable {M:Az3}{E:Value->aT->Prop}{s:aT}{e:Addr}{cls:Value}{Q:Unit->aT->Prop}
theorem NB(kC:A.frames=aS (env::bw))(hf:env.frame=aS L)(x:JU base (env::bw) e cls a0 s.heap)
  (k:∀h',Ao1 base bw e cls a0 h'->s.heap.UpToSlots h'->Q () { s with heap:=h' }):aW M A (AC8 env (.ref e)) Q E s:=by
 obtain⟨st,ne,fr,fl,tr⟩:=x;by_cases hl:fl=Ay6 L
 .subst hl;unfold AC8;refine Aa1 (wpAny_noteFrame_againW hf tr ?_);exact wpAny_setFlight_noneW st fr tr λh' a b c d=>k h' ⟨a,ne,b.2.2,c⟩ λq o r n=>⟨o.slots,d q o r n⟩
 .obtain⟨ob,fs,T,ot,us,g1,⟨rfl,g2⟩,g3,g4,g5,g6,g7,g8,g9⟩:=tr;have pK:∀b,b≠T->(s.heap.update T (Ak2 (·.setIfInBounds 3 .none))).get? b=s.heap.get? b:=λb z=>Ad7 _ _ (Ak9 z);have nr:∀b o,s.heap.get? b=aS o->(∀vs,o.data≠ .fields vs)->b≠T:=λb o q n z=>by
   rw[z,g7] at q;cases q;exact n us g8
  unfold AC8 Ao9;simp only[hf];refine Aa1 (Aa1 (Ad8 g1 g3 g4 ?_));rw[bS (by simp)];refine Aa1 (Ad8 g7 g8 g9 ?_);rw[bG (by simpa using hl)];refine Aa1 (Ay8 g7 g8 (Af3.mp g9).1 ?_);refine wpAny_newEntryW kC (fr.of_keeps λb o q n=>⟨o,(pK b (nr b o q n)).trans q,rfl⟩) hf ((pK e (Ak9 g6)).trans g1) (λb o q=>(pK b λz=>by rw[z,g5] at q;cases q).trans (st b o q)) ne g3 (Af3.mp g4).1 g2 λh' z=>?_;obtain⟨z1,z2,z3,z4⟩:=z;exact k h' ⟨z1,ne,z2.2.2,z3⟩ λb o q n=>z4 b o ((pK b (nr b o q n)).trans q) n
theorem HM(kC:A.frames=aS (env::bw))(hf:env.frame=aS L)(x:JU base (env::bw) e cls a0 s.heap)
  (k:∀h',Ao1 base bw e cls a0 h'->s.heap.UpToSlots h'->KD s.heap h'->Q () { s with heap:=h' }):aW M A (AC8 env (.ref e)) Q E s:=
 Ac7 (B6 (Gr env (.ref e)) (NB (Q:=λ_ s'=>∃h',s'={ s with heap:=h' }/\Ao1 base bw e cls a0 h'/\s.heap.UpToSlots h') kC hf x λh' a b=>⟨h',rfl,a,b⟩))
  (λ_ _ ⟨⟨h',e,a,b⟩,c⟩=>by subst e;exact k h' a b c) λ_ _ z=>z.1
theorem N2{l:List Env}(x:JU base l e cls a0 s.heap)
  (k:∀h',JU base l e cls a0 h'->(∀b o,s.heap.get? b=aS o->(∀vs,o.data≠ .fields vs)->h'.get? b=aS o)->Q () { s with heap:=h' }):aW M A (Aq4 (.ref e) fr) Q E s:=by
 obtain⟨st,ne,hl,fl,ob,fs,T,ot,us,g1,g2,g3,g4,g5,g6,g7,g8,g9⟩:=x;have pK:∀(v:Value) b,b≠T->(s.heap.update T (Ak2 (·.setIfInBounds 3 v))).get? b=s.heap.get? b:=λv b z=>Ad7 _ _ (Ak9 z);have nr:∀b o,s.heap.get? b=aS o->(∀vs,o.data≠ .fields vs)->b≠T:=λb o q n z=>by
  rw[z,g7] at q;cases q;exact n us g8
 have h3:=(Af3.mp g9).1;unfold Aq4;refine Aa1 (Ad8 g1 g3 g4 ?_);rw[bS (by simp)];refine Ay8 g7 g8 h3 (k _ ⟨λb o q=>(pK _ b λz=>by rw[z,g5] at q;cases q).trans (st b o q),ne,hl.of_keeps λb o q n=>⟨o,(pK _ b (nr b o q n)).trans q,rfl⟩,_,ob,fs,T,_,_,(pK _ e (Ak9 g6)).trans g1,g2,g3,g4,g5,g6,Ae7 _ g7 (AC0 (Ap0 g8 _)),Ap0 g8 _,by simp[h3];rfl⟩ λb o q n=>(pK _ b (nr b o q n)).trans q)
theorem Q4{l:List Env}(x:JU base l e cls a0 s.heap)
  (k:∀h',JU base l e cls a0 h'->(∀b o,s.heap.get? b=aS o->(∀vs,o.data≠ .fields vs)->h'.get? b=aS o)->KD s.heap h'->E (.ref e) { s with heap:=h' }):aW M A (passOn u7 (.ref e) jg:Sem Value) R E s:=by
 obtain⟨st,ne,hl,fl,ob,fs,T,ot,us,g1,g2,g3,g4,g5,g6,g7,g8,g9⟩:=id x;unfold PySem.passOn;refine Aa1 (Ad8 g1 g3 g4 ?_);rw[bG (by simp)];refine Aa1 (Ac7 (B6 (B1 (.ref e) jg.frame) (N2 (Q:=λ_ s'=>∃h',s'={ s with heap:=h' }/\JU base l e cls a0 h'/\∀b o,s.heap.get? b=aS o->(∀vs,o.data≠ .fields vs)->h'.get? b=aS o) (E:=λ_ _=>False) x λh' a b=>⟨h',rfl,a,b⟩)) (λ_ s' z=>?_) λ_ _ z=>z.1.elim);obtain⟨⟨h',e1,a,b⟩,c⟩:=z;subst e1;exact wpAny_throw (k h' a b c)
end
noncomputable def CXF(P:Program)(w:bg)(ex:List Addr)(stack:List Env)(H:Hp)(s:aT)(E:XK)(e:Value)(s':aT):Prop:=
 ∃a C t od H' B,e= .ref a/\s'.os=s.os/\Av9 s'.gens/\Un (cA stack) ex H H' s.heap s'.heap/\fM P w H' s'.heap/\JU B stack a (.ref C) (.ref t) s'.heap/\
  (∀b,(H' b≠aV\/∃o,s.heap.get? b=aS o)->b∉cA stack->b∉ex->∀o,s'.heap.get? b=aS o->B.get? b=aS o)/\eF H' s'.heap a od/\(∀b∈ex,H' b=aV)/\E (.ref C) od H'
theorem Xd{E:XK}
  {e:Value}  (I:Inv (AZ (cW P w) P w K mg base N qual scope f cd A bw s₀ H₀ E) bu σ H s)
   (hx:∀b∈ex,s₀.heap.objs.size<=b/\b∉cA (envOfC qual scope s₀.heap.objs.size f cd::bw)) (h:CXF P w ex (envOfC qual scope s₀.heap.objs.size f cd::bw) H s E e s'):
   (AZ (cW P w) P w K mg base N qual scope f cd A bw s₀ H₀ E).xe e s':=by
  obtain⟨a,C,t,od,H',B,rfl,os,bare,un,bO,fl,mz,di,exn,q⟩:=h;have kC:(envOfC qual scope s₀.heap.objs.size f cd).frame=aS s₀.heap.objs.size:=rfl;have lS:cA (envOfC qual scope s₀.heap.objs.size f cd::bw)=s₀.heap.objs.size::cA bw:=BC kC;refine HM I.ok.frames kC fl λh' nB ups kd=>?_;have ib:Un (cA bw) [] H₀ H s₀.heap s.heap:=I.base;have nx:∀b o,s₀.heap.get? b=aS o->b∉ex:=λb o e z=>bV (Ac6 (Ab1 e) (hx b z).1) (Ag7 _);have fx:∀b,b∈cA (envOfC qual scope s₀.heap.objs.size f cd::bw)->b∉ex:=λb hb z=>(hx b z).2 hb;have nl:∀b o,s₀.heap.get? b=aS o->b≠s₀.heap.objs.size:=λb o e=>Ac8 (Ab1 e);have toB:∀b,(H' b≠aV\/∃o,s.heap.get? b=aS o)->b∉cA (envOfC qual scope s₀.heap.objs.size f cd::bw)->b∉ex->∀o,s'.heap.get? b=aS o->h'.get? b=aS o:=λb hb hn hz o e=>nB.1 b o (mz b hb hn hz o e);have jP:∀b,b∈cA (envOfC qual scope s₀.heap.objs.size f cd::bw)->H' b=none:=λb hb=>by
   obtain⟨_,o,e,_⟩:=AB I.stack hb;exact un.free b o e (I.dc b hb) (fx b hb)
  have mU:fM P w H' h':=bO.on λb u hb e=>toB b (.inl hb) (λz=>hb (jP b z)) (λz=>hb (exn b z)) u e;have eU:∀b o,s₀.heap.get? b=aS o->b∉cA bw->b∉cA (envOfC qual scope s₀.heap.objs.size f cd::bw):=λb o e hn z=>by
   rw[lS] at z;rcases Aa7.mp z with z | z
   .exact nl b o e z
   .exact hn z
  have isin:∀b,b∈cA bw->b∈cA (envOfC qual scope s₀.heap.objs.size f cd::bw):=λb hb=>by rw[lS];exact Aa8 _ hb
  refine⟨a,C,t,od,H',rfl,os.trans I.os,bare,?_,mU,⟨B,nB,λb hb hn o e=>?_⟩,di.on kd (let ⟨o,e,_⟩:=nB.there;⟨o,e⟩),q⟩
  .refine⟨λb o e hH hn _=>?_,λb o e hH hb _=>?_,λb o e hH _=>?_,λb o e _=>?_,λb xs e=>un.gY b xs (ib.gY b xs e),λb o u e=>un.gz b o u (ib.gz b o u e),λb ps e=>?_⟩
   .have e1:=ib.keep b o e hH hn (by simp);exact toB b (.inr ⟨o,e1⟩) (eU b o e hn) (nx b o e) o (un.keep b o e1 (ib.free b o e hH (by simp)) (eU b o e hn) (nx b o e))
   .obtain⟨sl,e1⟩:=ib.slot b o e hH hb (by simp);obtain⟨tD,e2⟩:=un.slot b _ e1 (ib.free b o e hH (by simp)) (isin b hb) (nx b o e);obtain⟨_,o',e',nf⟩:=AB fl.2.2.1 (isin b hb);rw[e2] at e';cases e';obtain⟨oF,e3⟩:=ups b _ e2 nf;exact⟨oF,e3⟩
   .obtain⟨o1,e1⟩:=ib.there b o e (by simp);exact un.free b o1 e1 (ib.free b o e hH (by simp)) (nx b o e)
   .obtain⟨o1,e1⟩:=ib.there b o e (by simp);obtain⟨o2,e2⟩:=un.there b o1 e1 (nx b o e);by_cases hb:b∈cA bw
    .obtain⟨_,o',e',nf⟩:=AB fl.2.2.1 (isin b hb);obtain⟨oF,e3⟩:=ups b _ e' nf;exact⟨_,e3⟩
    .exact⟨o2,toB b (.inr ⟨o1,e1⟩) (eU b o e hb) (nx b o e) o2 e2⟩
   .obtain⟨m1,e1⟩:=ib.gB b ps e;obtain⟨m2,e2⟩:=un.gB b _ e1;exact⟨m1++m2,by rw[e2,AD7]⟩
  .have kJ:b∉cA (envOfC qual scope s₀.heap.objs.size f cd::bw):=λz=>by
    rcases hb with hb | ⟨o1,e1⟩
    .exact hb (jP b z)
    .exact eU b o1 e1 hn z
   have hz:b∉ex:=λz=>by
    rcases hb with hb | ⟨o1,e1⟩
    .exact hb (exn b z)
    .exact nx b o1 e1 z
   obtain⟨o2,e2,kB⟩:∃o2,s'.heap.get? b=aS o2/\(H' b≠aV\/∃o,s.heap.get? b=aS o):=by
    rcases hb with hb | ⟨o1,e1⟩
    .cases hy:H' b with
     | none=>exact bV hy hb
     | some u=>
      obtain⟨o2,e2⟩:=FG (bO b u hy);exact⟨o2,e2, .inl (λz=>by cases z)⟩
    .obtain⟨o3,e3⟩:=ib.there b o1 e1 (by simp);obtain⟨o2,e2⟩:=un.there b o3 e3 hz;exact⟨o2,e2, .inr ⟨o3,e3⟩⟩
   have e3:=mz b kB kJ hz o2 e2;have e4:=nB.1 b o2 e3;rw[show h'.get? b=aS o from e] at e4;cases e4;exact e3
theorem MR{h h' B B':Heap}{C:Addr}(k:∀b,b≠C->h'.get? b=h.get? b)(kb:∀b o,B'.get? b=aS o->B.get? b=aS o):∀{l:List Env},C∉cA l->h.FunFrames B l->h'.FunFrames B' l
 | [],_,_=>trivial
 | env::l,hn,⟨x,⟨L,o,e1,e2,e3,e4⟩,r⟩=>by
  rw[BC e1] at hn;have nL:L≠C:=λz=>hn (by rw[z];exact Ab0);refine⟨x,⟨L,o,e1,?_,(k L nL).trans e3,e4⟩,MR k kb (λz=>hn (Aa8 _ z)) r⟩;cases q:B'.get? L with
  | none=>rfl
  | some z=>rw[kb L z q] at e2;cases e2
noncomputable def OU(X:Cx)(E:XK):Prop:=∀(bu:List (Addr×Obj)) (σ:St) (H:Hp) (s:aT) (C:Addr) (e:Value) (s':aT),Inv X bu σ H s->Dq X bu H C->X.s₀.heap.objs.size<=C->(∃m,s.heap.Ns C m)->cW X.prog X.w X.stack H s E e s'->
 aW (aX X.prog X.w) X.A (Ao9 e X.env) (λ_ s2=>∃m,s2.heap.Ns C m/\∀h',Ao8 C s2.heap h'->∀jg:Env,jg.locals=C->aW (aX X.prog X.w) X.A (passOn "comprehension.variables-let-go" e jg:Sem Value) (λ_ _=>False) X.xe { s2 with heap:=h' }) (λ_ _=>False) s'
theorem WY{E:XK}:
  OU (AZ (cW P w) P w K mg base N qual scope f cd A bw s₀ H₀ E) E:=by
 intro bu σ H s C e s' I fp hC ⟨m,hn⟩ h;obtain⟨a,Cl,t,od,H',rfl,os,bare,un,bO,⟨B,fl,mz⟩,di,q⟩:=h;obtain⟨oC,es,ep,eC,dC,rC⟩:=id hn;have kC:(envOfC qual scope s₀.heap.objs.size f cd).frame=aS s₀.heap.objs.size:=rfl;have lS:cA (envOfC qual scope s₀.heap.objs.size f cd::bw)=s₀.heap.objs.size::cA bw:=BC kC;have nC:C∉cA (envOfC qual scope s₀.heap.objs.size f cd::bw):=λz=>by
  rw[lS] at z;rcases Aa7.mp z with z | z
  .exact fp.2.1 z
  .exact fp.2.2.1 z
 have HC:H' C=none:=un.free C oC eC fp.1 (by simp);have eC1:=un.keep C oC eC fp.1 nC (by simp);have eCB:=mz C (.inr ⟨oC,eC⟩) nC oC eC1;refine Hu (env:=envOfC qual scope s₀.heap.objs.size f cd) (bw:=bw) I.ok.frames kC fl λh1 held ups kd=>?_;have eC2:=held.1 C oC eCB;refine⟨m,⟨oC,es,ep,eC2,dC,rC⟩,λh2 sb jg _=>?_⟩;have wj:∀b,b≠C->h2.get? b=h1.get? b:=sb.2;generalize hB2:JQ B (λb=>if b=C then aS (.lst []) else aV)=B2;have mV:∀b o,B2.get? b=aS o->B.get? b=aS o/\b≠C:=λb o z=>by
  rw[<-hB2] at z;obtain⟨z1,z2⟩:=OQ z;exact⟨z1,λy=>by rw[bS y] at z2;cases z2⟩
 have toB2:∀b o,B.get? b=aS o->b≠C->B2.get? b=aS o:=λb o z y=>by
  rw[<-hB2];exact He z (bG y)
 have noB:∀b,B.get? b=aV->B2.get? b=none:=λb z=>by
  cases q:B2.get? b with
  | none=>rfl
  | some o=>rw[(mV b o q).1] at z;cases z
 obtain⟨k1,k2,k3,ob,fs,T,ot,us,g1,g2,g3,g4,g5,g6,g7,g8,g9⟩:=id held;have aC:a≠C:=λz=>by
  rw[z,eC2] at g1;cases g1;rw[dC] at g3;cases g3
 have TC:T≠C:=λz=>by
  rw[z,eC2] at g7;cases g7;rw[dC] at g8;cases g8
 have aap:JU B2 (envOfC qual scope s₀.heap.objs.size f cd::bw) a (.ref Cl) (.ref t) h2:=by
  refine⟨λb o z=>?_,noB a k2,MR wj (λb o z=>(mV b o z).1) nC k3,_,ob,fs,T,ot,us,(wj a aC).trans g1,g2,g3,g4,noB T g5,g6,(wj T TC).trans g7,g8,g9⟩;obtain⟨z1,z2⟩:=mV b o z;exact(wj b z2).trans (k1 b o z1)
 refine Q4 (s:={ s' with heap:=h2 }) aap λh3 qa yg xW=>?_;have jP:∀b,b∈cA (envOfC qual scope s₀.heap.objs.size f cd::bw)->H' b=none:=λb hb=>by
  obtain⟨_,o,e,_⟩:=AB I.stack hb;exact un.free b o e (I.dc b hb) (by simp)
 have to3:∀b,(H' b≠aV\/∃o,s.heap.get? b=aS o)->b∉cA (envOfC qual scope s₀.heap.objs.size f cd::bw)->b≠C->∀o,s'.heap.get? b=aS o->B2.get? b=aS o:=λb hb hn hz o e=>toB2 b o (mz b hb hn o e) hz;have sZ:∀b,b∈cA (envOfC qual scope s₀.heap.objs.size f cd::bw)->∀o,s'.heap.get? b=aS o->∃sl,h3.get? b=aS { o with slots:=sl }:=λb hb o e=>by
  obtain⟨_,o',e',nf⟩:=AB fl.2.2.1 hb;rw[e] at e';cases e';obtain⟨sl,e2⟩:=ups b _ e nf;have nb:b≠C:=λz=>nC (by rw[<-z];exact hb);exact⟨sl,yg b _ ((wj b nb).trans e2) nf⟩
 have sC:∀b,b∉[C]->b≠C:=λb z y=>z (by rw[y];simp);refine Xd I (ex:=[C]) (λb hb=>?_) ⟨a,Cl,t,od,H',B2,rfl,os,bare,?_,bO.on λb u hb e=>qa.1 b u (to3 b (.inl hb) (λz=>hb (jP b z)) (λz=>hb (by rw[z];exact HC)) u e),qa,λb hb hn hz o e=>?_,?_,λb hb=>?_,q⟩
 .rw[Ac9.mp hb];exact⟨hC,nC⟩
 .refine⟨λb o e hH hn hz=>qa.1 b o (to3 b (.inr ⟨o,e⟩) hn (sC b hz) o (un.keep b o e hH hn (by simp))),λb o e hH hb hz=>?_,λb o e hH hz=>un.free b o e hH (by simp),λb o e hz=>?_,un.gY,un.gz,un.gB⟩
  .obtain⟨sl,e1⟩:=un.slot b o e hH hb (by simp);obtain⟨tD,e2⟩:=sZ b hb _ e1;exact⟨tD,e2⟩
  .obtain⟨o2,e2⟩:=un.there b o e (by simp);by_cases hb:b∈cA (envOfC qual scope s₀.heap.objs.size f cd::bw)
   .obtain⟨tD,e3⟩:=sZ b hb _ e2;exact⟨_,e3⟩
   .exact⟨o2,qa.1 b o2 (to3 b (.inr ⟨o,e⟩) hb (sC b hz) o2 e2)⟩
 .obtain⟨o2,e2⟩:∃o2,s'.heap.get? b=aS o2:=by
   rcases hb with hb | ⟨o1,e1⟩
   .cases hy:H' b with
    | none=>exact bV hy hb
    | some u=>exact FG (bO b u hy)
   .exact un.there b o1 e1 (by simp)
  have e3:=to3 b hb hn (sC b hz) o2 e2;have e4:=qa.1 b o2 e3;rw[show h3.get? b=aS o from e] at e4;cases e4;exact e3
 .have d1:=di.on kd ⟨_,g1⟩;have d2:eF H' h2 a od:=by
   obtain⟨o,e,d⟩:=d1;exact⟨o,(wj a aC).trans e,d⟩
  obtain⟨_,_,_,_,ob3,_,_,_,_,e3,_⟩:=id qa;exact d2.on xW ⟨_,e3⟩
 .rw[Ac9.mp hb];exact HC
theorem Cx.Ok.pL(g:Value->aT->Prop)(h:X.Ok):Cx.Ok { X with xe:=g }:=⟨h.mod,h.kind,h.glob,h.blt,h.above,h.inj,h.has,h.rB,h.hd,h.frames,h.sS,h.sU,h.bs,h.mH,h.lJ,h.lq,h.fO,h.pB⟩
theorem Inv.pL(g:Value->aT->Prop)(I:Inv X bu σ H s):Inv { X with xe:=g } bu σ H s:=⟨I.ok.pL g,I.os,I.bare,I.base,I.loc,I.cell,I.free,I.dH,I.pin,I.bO,I.len⟩
noncomputable def EZ(X:Cx)(E:XK)(scope:Scope)(own:List Str)(fr:List (Str×Nat))(C:Addr)(ex:List Addr)(s:aT)(H:Hp):Cx:=
 { Bd X scope own fr C ex s H with xe:=λe s'=>∃bu σ H1 s1,Inv (Bd X scope own fr C ex s H) bu σ H1 s1/\cW X.prog X.w X.stack H1 s1 E e s' }
section
variable {E:XK}{own:List Str}{fr:List (Str×Nat)}
theorem Xm:Ci (cW X.prog X.w) (EZ X E scope own fr C ex s H) E:=λbu σ H1 s1 e s' I h=>
 ⟨bu,σ,H1,s1,I.pL (Bd X scope own fr C ex s H).xe,h⟩
theorem LY{it acc:Value}(I:Nat->aT->Prop)
  (hZ:∀e s,Z e s->notedBy (aX prog w) A env (λx s'=>R (.error x) s') e s)
  (turn:∀n s,I n s->aW (aX prog w) A (pyNext it) (λr s₁=>match r with
   | none=>R (.ok .next) s₁
   | some v=>aW (aX prog w) A (As9 target it v) (λ_ xr=>aW (aX prog w) A (Ax1 target env v) (λ_ s₂=>
    aW (aX prog w) A (forIn ifs true λc r=>if r=true then do let ok <-isTrue c env (bh c env);pure (Am1 ok) else pure (Am1 r)) (λok s₃=>
     if ok=true then aW (aX prog w) A (bh elt env) (λx s₄=>
      aW (aX prog w) A (call (.builtin "list.append") [acc,x]) (λ_ s₅=>∃m,m<n/\I m s₅) Z s₄) Z s₃
     else ∃m,m<n/\I m s₃) Z s₂) Z xr) Z s₁) Z s)
  (n:Nat) (h:I n s):An3 (aX prog w) A (.compLoop (.ListComp elt [⟨target,iter,ifs,0⟩] scope pos) 0 it acc env) R s:=by
 refine codeAny_loop rfl I (λn s hI=>?_) n h;show aW _ A ((compTurn (.ListComp elt [⟨target,iter,ifs,0⟩] scope pos) 0 it acc env).onRaise (λx=>do Ao9 x env;theTreesLotGoes x)) _ _ s;refine wpAny_noted ?_;rw[compTurn_list];refine Aa1 (Ag1 (Aa1 (Ac7 (turn n s hI) (λr s₁ h₁=>?_) hZ)));cases r with
 | none=>exact Ab2 h₁
 | some v=>
  refine Aa1 (Ac7 h₁ (λ_ xr h₁'=>Aa1 (Ac7 h₁' (λ_ s₂ h₂=>Aa1 (Ac7 h₂ (λok s₃ h₃=>?_) hZ)) hZ)) hZ);cases ok with
  | false=>exact Ab2 ⟨rfl,h₃⟩
  | true=>
   exact Aa1 (Aa1 (Ac7 h₃ (λx s₄ h₄=>Aa1 (Ac7 h₄ (λ_ s₅ h₅=>Ab2 (Ab2 ⟨rfl,h₅⟩)) hZ)) hZ))
end
section
variable {E:XK}
theorem Pi(hp:OU X E)(hc:X.calm=true)(S:c7 X scope own fr)
   (hg:∀C ex s H,PG (EZ X E scope own fr C ex s H) tg g) (ht:∀C ex s H,pT (EZ X E scope own fr C ex s H) ifs tc) (he:∀C ex s H,PE (EZ X E scope own fr C ex s H) elt te)
 {s:aT}  
   (I:Inv X bu σ H s) (T:Turn X.prog X.w X.K tg J fp it tn) (st:tn 0 s.heap) (hf:∀b∈fp,Dq X bu H b) 
   (h:∀D,H D=aV->DX J (DW own fr σ) g tc te Q H D)
   {RR:Value->Addr->Result->aT->Prop}
   (hR:∀D C H' s',Inv X bu σ H' s'->(∃m,s'.heap.Ns C m)->Dq X bu H' C->Q (.ref D) H'->RR (.ref D) C (.ok .next) s')
   (hRE:∀D C x s2,(∃m,s2.heap.Ns C m/\∀h',Ao8 C s2.heap h'->∀jg:Env,jg.locals=C->aW (aX X.prog X.w) X.A (passOn "comprehension.variables-let-go" x jg:Sem Value) (λ_ _=>False) X.xe { s2 with heap:=h' })->RR (.ref D) C (.error x) s2):
   aW (aX X.prog X.w) X.A (newList []) (λacc s₃=>aW (aX X.prog X.w) X.A (newFunctionEnv scope X.env.globals (AO X.env.cells scope.names []) [] X.env.qual aV .none (aS X.env)) (λjg s₄=>
    An3 (aX X.prog X.w) X.A (.compStart (.ListComp elt [⟨tg,iter,ifs,0⟩] scope pos) 0 (.ref it) acc { jg with scope:=relabel scope X.env }) (RR acc jg.locals) s₄) EE s₃) EE s:=by
  have hDn:H s.heap.objs.size=none:=I.fresh;obtain⟨W,⟨m0,w0⟩,turn⟩:=h s.heap.objs.size hDn;have I3:Inv X bu σ (upd H s.heap.objs.size (.lst [])) { s with heap:=s.heap.push { cls:= .type "list",data:= .seq ([]:List Value).toArray },toks:=s.toks }:=I.qE .nil (Ad4 _);refine Az5 ?_;generalize hs3:({ s with heap:=s.heap.push { cls:= .type "list",data:= .seq ([]:List Value).toArray } }:aT)=s3 at I3 ⊢;have I3:Inv X bu σ (upd H s.heap.objs.size (.lst [])) s3:=I3;have qH:∀b o,s.heap.get? b=aS o->s3.heap.get? b=aS o:=λb o e=>by rw[<-hs3];exact Aa4 _ e
  have lP:∀b∈fp,∃o,s.heap.get? b=aS o/\∀v,o.data≠ .cell v:=T.obj 0 _ st;have gh:∀b∈fp,b≠s.heap.objs.size:=λb hb=>by obtain⟨o,e,_⟩:=lP b hb;exact Ac8 (Ab1 e)
  have mR:∀b∈fp,Dq X bu (upd H s.heap.objs.size (.lst [])) b:=λb hb=>⟨by rw[An (gh b hb)];exact(hf b hb).1,(hf b hb).2⟩;have qI:∀b∈fp,b<s3.heap.objs.size:=λb hb=>by obtain⟨o,e,_⟩:=lP b hb;exact Ab1 (qH b o e)
  refine AE5 S.oB (by intro y hy;simp at hy) (λh₁ qm vR=>?_) S.kind;have keep:∀b o,s3.heap.get? b=aS o->h₁.get? b=aS o:=λb o e=>vR.extBut b o (Ac8 (Ab1 e)) (Aa4 _ e);have J0:=I3.block (t':=s3.toks+([]:List (Str×Value)).length) S mR qI qm keep;have sY:tn 0 h₁:=T.keep 0 _ _ st λb hb o e=>keep b o (qH b o e);generalize hY:EZ X E scope own fr s3.heap.objs.size fp s3 (upd H s.heap.objs.size (.lst []))=Y;have J1:Inv Y [] (DW own fr σ) (upd H s.heap.objs.size (.lst [])) { s3 with heap:=h₁,toks:=s3.toks+([]:List (Str×Value)).length }:=by rw[<-hY];exact J0.pL _
  have yP:X.prog=Y.prog:=by rw[<-hY];rfl
  have loop:An3 (aX X.prog X.w) X.A (.compLoop (.ListComp elt [⟨tg,iter,ifs,0⟩] scope pos) 0 (.ref it) (.ref s.heap.objs.size) (Au3 scope (AO X.env.cells scope.names []) s3.heap.objs.size X.env))
    (RR (.ref s.heap.objs.size) s3.heap.objs.size) { s3 with heap:=h₁,toks:=s3.toks+([]:List (Str×Value)).length }:=by
   subst hY;have kI:∀{H':Hp},(∀b∈fp,H' b=aV)->∀b∈fp,Dq (EZ X E scope own fr s3.heap.objs.size fp s3 (upd H s.heap.objs.size (.lst []))) [] H' b:=λ{H'} hn b hb=>
    ⟨hn b hb,Ac8 (qI b hb),J0.ok.lq b hb, .inl hb,(J0.ok.sU b hb).2,λp hp=>bV (show p∈([]:List (Addr×Obj)) from hp) (by simp)⟩
   refine LY (Z:=(EZ X E scope own fr s3.heap.objs.size fp s3 (upd H s.heap.objs.size (.lst []))).xe) (λn s'=>∃i ys H',Inv (EZ X E scope own fr s3.heap.objs.size fp s3 (upd H s.heap.objs.size (.lst []))) [] (DW own fr σ) H' s'/\tn i s'.heap/\(∀b∈fp,H' b=aV)/\W i n ys H') ?_ ?_ m0
    ⟨0,[],_,J1,sY,λb hb=>(mR b hb).1,w0⟩
   .rintro e s' ⟨aaM,σ1,H1,s1,I1,hx⟩;have IX:Inv X bu σ H1 s1:=I3.kF I1.os I1.base I1.bO I1.bare λb hb=>⟨(mR b hb).2.2.2.1,(mR b hb).2.1,(mR b hb).2.2.2.2.1,(mR b hb).2.2.2.2.2⟩;obtain⟨m,hn,_⟩:=id I1.loc;exact Ac7 (hp bu σ H1 s1 s3.heap.objs.size e s' IX (I3.kH (Aa6 _) I1.free) I3.sz ⟨m,hn⟩ hx) (λ_ s2 z=>hRE _ _ e s2 z) λ_ _ z=>z.elim
   rintro n s4 ⟨i,ys,H4,I4,xu,xw,w4⟩;rcases turn i n ys H4 w4 with ⟨stop,q⟩ | ⟨go,N,hN,step⟩
   .refine bZ (T.done (EZ X E scope own fr s3.heap.objs.size fp s3 (upd H s.heap.objs.size (.lst []))) rfl rfl rfl hc i [] s4 _ H4 _ I4 (kI xw) xu stop) λr s5 ⟨hr,I5⟩=>?_;subst hr;obtain⟨m,hn,_⟩:=id I5.loc;exact hR _ _ H4 s5 (I3.kF I5.os I5.base I5.bO I5.bare λb hb=>⟨(mR b hb).2.2.2.1,(mR b hb).2.1,(mR b hb).2.2.2.2.1,(mR b hb).2.2.2.2.2⟩) ⟨m,hn⟩ (I3.kH (Aa6 _) I5.free) q
   .refine bZ (T.item (EZ X E scope own fr s3.heap.objs.size fp s3 (upd H s.heap.objs.size (.lst []))) rfl rfl rfl hc i [] s4 _ H4 _ I4 (kI xw) xu go) λr s5 ⟨u,hr,h5⟩=>?_;subst hr;refine bZ h5 λ_ s6 ⟨x,H6,I6,r6,y6,uC,fr6⟩=>?_;have I6':=I6.pinned (kI fr6) (T.obj _ _ uC);refine bZ (hg _ _ _ _ _ s6 _ H6 x u _ I6' r6 (step x H6 y6)) λ_ s7 ⟨σ7,H7,I7,kp,q7⟩=>?_;refine bZ (ht _ _ _ _ _ s7 σ7 H7 _ I7 q7) λb s8 ⟨H8,I8,q8⟩=>?_;have again:∀{s9:aT} {H9:Hp} {ku:List V},Inv (EZ X E scope own fr s3.heap.objs.size fp s3 (upd H s.heap.objs.size (.lst []))) ([]++Hw fp s6.heap) σ7 H9 s9->N ku H9->
      ∃m,m<n/\∃i ys H',Inv (EZ X E scope own fr s3.heap.objs.size fp s3 (upd H s.heap.objs.size (.lst []))) [] (DW own fr σ) H' s9/\tn i s9.heap/\(∀b∈fp,H' b=aV)/\W i m ys H':=λ{s9 H9 ku} I9 n9=>by
     obtain⟨m',hm,w9⟩:=hN ku H9 n9;refine⟨m',hm,i+1,ku,H9,I9.fu.weak kp.1.symm kp.2,T.keep _ _ _ uC λb hb o e=>(I9.pin (b,o) (Ac0 _ (Ac0 _ (Co hb e)))).1,λb hb=>?_,w9⟩;obtain⟨o,e,d⟩:=T.obj _ _ uC b hb;exact(I9.pin (b,o) (Ac0 _ (Ac0 _ (Co hb e)))).2.1
    cases b with
    | false=>
     rw[bG Ab3] at q8 ⊢;exact again I8 q8
    | true=>
     rw[bS rfl] at q8 ⊢;refine bZ (he _ _ _ _ _ s8 σ7 H8 _ I8 q8) λxv s9 ⟨y,H9,I9,r9,hD,hl,n9⟩=>?_;refine bZ (A0 _ s9 σ7 H9 (.ref s.heap.objs.size) [y] (.ref s.heap.objs.size) [xv] (λ_ H'=>H'=upd H9 s.heap.objs.size (.lst (ys++[y]))) I9 rfl (.cons r9 .nil) ⟨_,ys,y,rfl,rfl,hD,hl,rfl⟩) λ_ s10 ⟨_,H10,I10,_,q10⟩=>?_;subst q10;exact again I10 n9
  exact codeAny_compStart_list loop (T.self _ 0 _ _ _ sY loop)
theorem QP{kM:Pos}(hp:OU X E)(hN:X.N.Nodup)(uD:X.N[i]?=aS x)(hx:Loc X.env.scope x)
  (hc:X.calm=true) (S:c7 X scope own fr) (hi:PI X tg iter wi)
  (hg:∀C ex s H,PG (EZ X E scope own fr C ex s H) tg g) (ht:∀C ex s H,pT (EZ X E scope own fr C ex s H) ifs tc) (he:∀C ex s H,PE (EZ X E scope own fr C ex s H) elt te)
  (uE:Av3 (.ListComp elt [⟨tg,iter,ifs,0⟩] scope pos) (aS (.Name x px)) kM.line X.env=pure true:=by rfl)
  (hf:X.fn x=true\/X.env.scope.names.lookup x=aS .local:=by w_means)
  (hs:∀x,Am5 iter X.env x=pure x:=by intro _;rfl):PS X (.Assign [.Name x px] (.ListComp elt [⟨tg,iter,ifs,0⟩] scope pos) kM) (NR (G9 wi own fr g tc te) (AN i)):=by
 intro bu s σ H D I h;rw[exec_Assign_Name_used _ _ _ _ uE];refine Aa1 (Ag1 (Aa1 ?_));show aW _ X.A (do let _ <-comprehension (.ListComp elt [⟨tg,iter,ifs,0⟩] scope pos) scope X.env _ (newList []) false (bh iter X.env) (aS (Ax1 (.Name x px) X.env))) _ _ s;refine Aa1 (Ac7 (AA7 (use:=aS (Ax1 (.Name x px) X.env)) (Q:=λ_ s'=>SP X bu D .next s') rfl hs (Cu (S.cells I.ok)) S.kind S.loc
  (bZ (hi bu s σ H _ I h) λxv s₁ h₁=>bZ h₁ λnv s₂ h₂=>?_)) (λ_ s' hq=>Ab2 (Ab2 hq)) λ_ _ e=>e)
 obtain⟨it,fp,tn,J,H2,rfl,I2,T,ue,f2,h2⟩:=h₂;refine Pi (Q:=λx H1=>AN i x σ H1 D.nx) (RR:=λacc C=>compPost (aX X.prog X.w) X.A X.xe (aS (Ax1 (.Name x px) X.env)) (λ_ s'=>SP X bu D .next s') acc C) hp hc S hg ht he I2 T ue f2 h2 ?_ λD C x s2 z=>z;rintro Dl C H' s' I' ⟨m,hn⟩ f q;obtain⟨o,es,ep,ho,hd,r⟩:=hn;have uF:∀v,o.data≠ .cell v:=λv z=>by rw[hd] at z;cases z
 have I'':Inv X (bu++[(C,o)]) σ H' s':=I'.kq λp hp=>(Ad6.mp hp).elim (λz=>I'.pin p (Ac0 _ z)) λz=>by
  have e:p=(C,o):=by simpa using z
  subst e;exact⟨ho,f.1,f.2.1,f.2.2.1,uF⟩
 show aW _ X.A (Ax1 (.Name x px) X.env (.ref Dl)) _ _ s';refine AH9 (CA I'' hN uD hx (v:= .ref Dl) rfl (λs2 I2=>?_) hf);have pc:=(I2.pin (C,o) (Ac0 _ (Ac0 _ (by simp)))).1;refine⟨m,⟨o,es,ep,pc,hd,r⟩,λh' sb=>⟨_,H',?_,q⟩⟩;exact(I2.fu (pl:=[(C,o)])).turned (t':=s2.toks) (it:=C) (λb o hb e=>(sb.2 b hb).trans e) f.1 f.2.1 f.2.2.2.1 f.2.2.2.2.1 f.2.2.2.2.2
variable {own:List Str}{fr:List (Str×Nat)}
theorem S3(h:EW X.env.scope X.N scope own fr=true)(hi:own[i]?=aS x)(C:Addr)(ex:List Addr)(s:aT)(H:Hp):PG (EZ X E scope own fr C ex s H) (.Name x px) (AN i):=by
 obtain⟨h1,h2⟩:=KU h;have hl:(relabel scope X.env).names.lookup x=aS .local:=lookup_relabel_local (h1 x (Ad0 hi));have dZ:=(Ab8.mp hi).1;refine BB h2 ?_ (.inl hl) (.inr hl);show (own++fr.map (·.1))[i]?=aS x;rw[Ad9 dZ];exact hi
theorem Px{y x:Str}{py kM:Pos}(hp:OU X E)(hN:X.N.Nodup)(uD:X.N[i]?=aS y)(hx:Loc X.env.scope y)(hi:PI X (.Name x px) iter wi)
  (ht:∀C ex s H,pT (EZ X E scope [x] (FV X.N scope) C ex s H) ifs tc) (he:∀C ex s H,PE (EZ X E scope [x] (FV X.N scope) C ex s H) elt te)
  (hb:EW X.env.scope X.N scope [x] (FV X.N scope)=true:=by with_unfolding_all rfl) (hc:X.calm=true:=by rfl)
  (uE:Av3 (.ListComp elt [⟨.Name x px,iter,ifs,0⟩] scope pos) (aS (.Name y py)) kM.line X.env=pure true:=by rfl)
  (hf:X.fn y=true\/X.env.scope.names.lookup y=aS .local:=by w_means)
  (hs:∀x,Am5 iter X.env x=pure x:=by intro _;rfl):
  PS X (.Assign [.Name y py] (.ListComp elt [⟨.Name x px,iter,ifs,0⟩] scope pos) kM) (NR (G9 wi [x] (FV X.N scope) (AN 0) tc te) (AN i)):=
 QP hp hN uD hx hc (.of hb) hi (λC ex s H=>S3 hb rfl C ex s H) ht he uE hf hs
end
end L2
namespace L2
open PySem PySem.Spec PyProof.Rows PySem.W
noncomputable def Sq(H:Hp)(ts:List Addr):Prop:=∀b,H b=aV\/(∃o xs,H b=aS (.mG o (.lst xs)))\/b∈ts
theorem Pw{vs:List Value}{ns:List Int}
  (KX:K.In s₁.heap) (qm:s₁.heap.Ns Al3 mg) (hb:s₁.heap.Ns builtinsNs mb) (hbb:∀x:Str,x≠"__name__"->mb x=Am4 x) (aaq:s₁.heap.NoLimit) (hg:s₁.gens= #[])
  (ha:s₁.heap.get? a=aS { cls:= .type "list",data:= .seq vs.toArray }) (hi:IntsAre vs ns) (hl:ns.length<=sizeLine) (hr:cJ k callerA)
  (hT:∀T∈ts,s₁.heap.get? T=aS (tabObj #[])) (hC:∀T∈ts,∃c,As4 s₁.heap c T) (hKT:∀T∈ts,K.lookup T=aV) (hB:∀T∈ts,s₁.heap.BuiltinsAt mg T)
  (F:∀base:Heap,K.In base->base.Ns Al3 mg->(∀T∈ts,base.BuiltinsAt mg T)->bQ P w K mg base CX k fa fd [x] sp) (qR:∀(s:aT) (u:Value),AF2 s fd ⟨[u],[]⟩ [(x,u)])
  (oq:∀H:Hp,Sq H ts->(∀T∈ts,H T=aS (.ko #[]))->bx K H a (ns.map V.int)->sp [.ref a] H (λv _=>v= .bl true) λ_ _ _=>False)
  (hCX:∀H e s',CX [] H s₁ (λ_ _ _=>False) e s'->False):
  An3 (aX P w) callerA (.call (.ref fa) ⟨[.ref a],[]⟩) (λr s'=>r= .ok (.ret (.bool true))/\OldK s₁.heap s'.heap/\s'.os=s₁.os/\Av9 s'.gens) s₁:=by
 have rv:=KS hi;have naT:a∉ts:=λz=>by have:=hT a z;rw[this] at ha;cases ha
 have core:∀H:Hp,Sq H ts->(∀T∈ts,H T=aS (.ko #[]))->bx K H a (ns.map V.int)->fM P w H s₁.heap->(∀b,H b≠aV->b=a\/b∈ts)->(H a≠aV->K.lookup a=aV)->
   An3 (aX P w) callerA (.call (.ref fa) ⟨[.ref a],[]⟩) (λr s'=>r= .ok (.ret (.bool true))/\OldK s₁.heap s'.heap/\s'.os=s₁.os/\Av9 s'.gens) s₁:=by
  intro H hO hHT hS bO hA hK;have free:∀{b:Addr} {o:Obj},s₁.heap.get? b=aS o->(∀ws n,o.data≠ .seq ws n)->(∀ws,o.data≠ .fields ws\/o.cls≠ .none)->H b=none:=λ{b o} e n1 n2=>by
   cases q:H b with
   | none=>rfl
   | some u=>
    rcases hA b (by rw[q];simp) with z | z
    .rw[z,ha] at e;cases e;exact bV rfl (n1 _ _)
    .rw[hT b z] at e;cases e;rcases n2 #[] with z | z
     .exact bV rfl z
     .exact bV rfl z
  have uV:∀{b:Addr} {m:Str->Option Value},s₁.heap.Ns b m->(JQ s₁.heap H).Ns b m:=λ{b m} ⟨o,es,ep,e,d,r⟩=>⟨o,es,ep,He e (free e (λws n=>by rw[d];simp) λws=> .inl (by rw[d];simp)),d,r⟩;have hKb:K.In (JQ s₁.heap H):=λb o e=>He (KX b o e) (by
   cases q:H b with
   | none=>rfl
   | some u=>
    rcases hA b (by rw[q];simp) with z | z
    .subst z;rw[hK (by rw[q];simp)] at e;cases e
    .rw[hKT b z] at e;cases e)
  have hM:Mod K mg (JQ s₁.heap H):=⟨hKb,uV qm,⟨mb,uV hb,hbb⟩,let ⟨mc,h1,h2⟩:=aaq;⟨mc,uV h1,h2⟩⟩;have e0:jf P w K mg (JQ s₁.heap H) callerA [] s₁ H:=⟨rfl,hM,λb o e=>OQ e,AG0 (Pz _ _),trivial,λb hb=>bV (show b∈([]:List Addr) from hb) (by simp),bO, .of_eq hg⟩;have hB':∀T∈ts,(JQ s₁.heap H).BuiltinsAt mg T:=λT z=>by
   obtain⟨bm,o,a1,a2,a3,a4,a5,a6,a7,a8⟩:=hB T z;exact⟨bm,o,a1,a2,a3,a4,He a5 (free a5 (λws n=>by rw[a8];simp) λws=> .inl (by rw[a8];simp)),a6,a7,a8⟩
  refine Ao3 ((F _ hKb (uV qm) hB').run callerA [] s₁ H ⟨[.ref a],[]⟩ [.ref a] [.ref a] _ _ hr e0 (qR s₁ (.ref a)) (.cons rfl .nil) (oq H hO hHT hS)) λr s' h=>?_
  match r,h with
  | .error e,h=>exact(hCX H e s' h).elim
  | .ok .next,h=>exact Aj2 h
  | .ok .brk,h=>exact Aj2 h
  | .ok .cont,h=>exact Aj2 h
  | .ok (.ret u),⟨v,H',os,bare,un,mU,r',q⟩=>
   have q':v= .bl true:=q;subst q';obtain rfl:u=Ar6 true:=r';have kept:∀b o,b∉ts->s₁.heap.get? b=aS o->s'.heap.get? b=aS o:=λb o hb e=>by
    cases q:H b with
    | none=>exact un.keep b o e q (by intro z;exact bV (show b∈([]:List Addr) from z) (by simp)) (by simp)
    | some u=>
     rcases hO b with z | ⟨ob,xs,z⟩ | z
     .rw[q] at z;cases z
     .obtain⟨e1,_⟩:=bO b _ z;obtain⟨e2,_⟩:=mU b _ (un.gz b ob _ z);rw[e] at e1;cases e1;exact e2
     .exact bV z hb
   have wk:∀T∈ts,∃more,s'.heap.get? T=aS (tabObj (#[]++more)):=λT z=>by
    obtain⟨more,hT'⟩:=un.gB T _ (hHT T z);exact⟨more,mU T _ hT'⟩
   refine⟨rfl,⟨λb o e=>?_,λb o e=>?_⟩,os,bare⟩
   .by_cases hb:b∈ts
    .have hTb:=hT b hb;rw[hTb] at e;cases e;obtain⟨cc,hc⟩:=hC b hb;obtain⟨more,h2⟩:=wk b hb;exact .inr (.inl ⟨(hc.tab hTb).isCodeTable,rfl, #[],more,rfl,h2⟩)
    .exact .inl (kept b o hb e)
   .by_cases hb:b∈ts
    .obtain⟨more,h2⟩:=wk b hb;exact⟨_,h2⟩
    .exact⟨o,kept b o hb e⟩
 cases hk:K.lookup a with
 | some o=>
  have e:=KX a o hk;rw[ha] at e;cases e;refine core (λb=>if b∈ts then aS (.ko #[]) else aV) (λb=>?_) (λT z=>bS z) (.inr ⟨_,vs.toArray,_,hk,rfl,rfl,rfl,by rw[Ab6,hi.length];exact hl,by simpa using rv⟩) (λb u z=>?_) (λb z=>?_) λz=>bV (bG naT) z
  .by_cases hb:b∈ts
   .exact .inr (.inr hb)
   .exact .inl (bG hb)
  .by_cases hb:b∈ts
   .have z':=(bS hb).symm.trans z;cases z';exact hT b hb
   .have z':=(bG hb).symm.trans z;cases z'
  .by_cases hb:b∈ts
   .exact .inr hb
   .exact bV (bG hb) z
 | none=>
  refine core (λb=>if b∈ts then aS (.ko #[]) else if b=a then aS (.mG { cls:= .type "list",data:= .seq vs.toArray } (.lst (ns.map V.int))) else aV) (λb=>?_) (λT z=>bS z) (.inl (.inr ⟨{ cls:= .type "list",data:= .seq vs.toArray },(bG naT).trans (bS rfl)⟩)) (λb u z=>?_) (λb z=>?_) λ_=>hk
  .by_cases hb:b∈ts
   .exact .inr (.inr hb)
   .by_cases kB:b=a
    .exact .inr (.inl ⟨_,_,(bG hb).trans (bS kB)⟩)
    .exact .inl ((bG hb).trans (bG kB))
  .by_cases hb:b∈ts
   .have z':=(bS hb).symm.trans z;cases z';exact hT b hb
   .by_cases kB:b=a
    .have z':=((bG hb).trans (bS kB)).symm.trans z;cases z';subst kB;exact⟨ha,by rw[Aa0];exact hl,vs,_,rv,ha⟩
    .have z':=((bG hb).trans (bG kB)).symm.trans z;cases z'
  .by_cases hb:b∈ts
   .exact .inr hb
   .by_cases kB:b=a
    .exact .inl kB
    .exact bV ((bG hb).trans (bG kB)) z
theorem qV{l:Ay1}{k:Nat}{d:DefRec}{K:Az9->aU}{CX:bg->qB}{sp:bg->Sp}{x:Str}
  (hn:l.most=aS n) (kJ:n<=sizeLine) (uz:d.params.defaults=[]) (hr:cJ k callerA)
  (hY:∀(w:bg) (h:Heap),YP w h->(K w.params).In h) (hYt:∀(w:bg) (h:Heap),YP w h->∀P∈ts,h.get? P=aS (tabObj #[])) (hnt:∀w:bg,noTabs (K w.params)=true)
  (F:∀(w:bg) (mg:Str->Option Value) (fa:Addr) (h:Heap),(K w.params).In h->h.Ns Al3 mg->mg d.name=aS (.ref fa)->
   ∃fd:Am7,(∀(s:aT) (u:Value),AF2 s fd ⟨[u],[]⟩ [(x,u)])/\(∀h':Heap,(K w.params).In h'->∀T∈ts,∃c,As4 h' c T)/\
    ∀base:Heap,(K w.params).In base->base.Ns Al3 mg->(∀T∈ts,base.BuiltinsAt mg T)->bQ l.prog w (K w.params) mg base (CX w) k fa fd [x] (sp w))
  (oq:∀(w:bg) (H:Hp) (a:Addr) (ns:List Int),ns.length<=n->Sq H ts->(∀T∈ts,H T=aS (.ko #[]))->bx (K w.params) H a (ns.map V.int)->sp w [.ref a] H (λv _=>v= .bl true) λ_ _ _=>False)
  (hCX:∀(w:bg) (H:Hp) (s:aT) (e:Value) (s':aT),CX w [] H s (λ_ _ _=>False) e s'->False):
  PySem.W.WalkO q loose XP YP l.row.toRowW d [] (λf vs=>PySem.call f vs):=by
 refine Att.mO hn uz λw s₀ s₁ mg mb fa o pm cd doc a vs ns G Y ho hd je xq lP hints hlen hg=>?_;have KX:=hY w _ Y;obtain⟨fd,hb,hC,hF⟩:=F w mg fa _ KX G.T.g xq;have hT:=hYt w _ Y;have hK:∀T∈ts,(K w.params).lookup T=none:=λT hm=>by
  cases e:(K w.params).lookup T with
  | none=>rfl
  | some o=>
   have e2:=KX T o e;rw[hT T hm] at e2;cases e2;have h2:=Ae0.mp (hnt w) _ (mem_of_lookupK e);exact bV (show false=true from h2) Ab3
 exact Pw KX G.T.g G.T.b G.T.builtins G.T.nolimit hg lP hints (Ab4 hlen kJ) hr hT (hC _ KX) hK (λT z=>Ve G.T (hT T z)) hF hb (λH hO h1 hS=>oq w H a ns hlen hO h1 hS) λH e s'=>hCX w H s₁ e s'
end L2
namespace L2
open PySem PySem.Spec PyProof.Rows
structure yh(K:aU)(m q:Str)(st:Stmt)(ps:List Str)(f:Addr)(fd:Am7):Prop where
 fn:cR K m q st f fd
 bi:Binds K fd ps []
section
variable {m q x:Str}{st:Stmt}{f:Addr}
theorem vc(a:mg x=aS (.ref f))(F:cR K x x st f fd)(b:∀us:List Value,us.length=ps.length->bindArgs fd ⟨us,[]⟩=pure (ps.zip us)):bJ K mg x st ps f fd:=⟨F,a, .all b⟩
theorem vd(F:cR K m q st f fd)(b:∀us:List Value,us.length=ps.length->bindArgs fd ⟨us,[]⟩=pure (ps.zip us)):yh K m q st ps f fd:=⟨F, .all b⟩
theorem qW(a:PySem.W.isClsIn K C=true)(b:Aj4 K (.ref C) "__getattribute__"=aS (aS (.builtin "BaseException.__getattribute__")))(c:Aj4 K (.ref C) "__getattr__"=aS aV)(d:Aw5 K C (.type "BaseException")=aS true)(e:Aj4 K (.ref C) "__class__"=aS (aS (.builtin "object.__class__")))
 (f:Ax2 K (.builtin "object.__class__") "__get__"=aS (aS (.builtin "getset_descriptor.__get__"))) (g:AD2 K (.builtin "object.__class__")=aS true) (h:Aw5 K C (.type "object")=aS true):HT.ExcKind K C:=⟨a,b,c,d,e,f,g,h⟩
theorem yi{n:Int}{t:Tok}(h:mg x=aS (.int n t)):∃t,mg x=aS (.int n t):=⟨t,h⟩
theorem yj{t:Tok}(h:mg x=aS (.str z t)):∃t,mg x=aS (.str z t):=⟨t,h⟩
theorem sj:Own mg []:=λ_ h=>by cases h
theorem mY{xs:List Str}(a:mg x=aV)(h:Own mg xs):Own mg (x::xs):=λy hy=>by
 rcases Aa7.mp hy with rfl | hy
 .exact a
 .exact h y hy
end
theorem yk(h:HT.ExcKind K C)(d:Aw4 K C=true):kP K C:=⟨h,d⟩
end L2
namespace HT
open PySem PySem.Spec PyProof.Rows PySem.W
variable {prog:Program}{w:bg}{E:Value->aT->Prop}{s:aT}
end HT
namespace L2
open PySem PySem.Spec PyProof.Rows
variable {o e:br}{name:Str}{id:String}{r:V->List V->Hp->VK->Prop}
end L2
namespace L2
open PySem PySem.Spec PyProof.Rows
structure aar(K:aU)(x qual:Str)(st:Stmt)(f:Addr)(fd:Am7):Prop where
 ex:∃(oc:Value) (od:Option Addr) (dV kV doc pm:Value) (an:Option Addr) (gk ct:Value) (qk:Array (Option Value)),
  fd=Au1 x qual (GN st) (CM st) (Ah st) dV kV doc pm an gk ct/\K.lookup f=aS ⟨oc,od, .func fd,qk⟩/\AA3 K gk qual=true
structure aaQ(K:aU)(m q:Str)(st:Stmt)(ps:List Str)(f:Addr)(fd:Am7):Prop where
 fn:aar K m q st f fd
 bi:Binds K fd ps []
 bn:Binds K fd ps [.none]
end L2
namespace L2
open PySem PySem.Spec PyProof.Rows PySem.W
theorem QC{cg:Heap}(e:jf P w K mg cg A bw s H)(m:Mod K mg base)(sub:∀b o,base.get? b=aS o->cg.get? b=aS o)(sz:base.objs.size<=cg.objs.size):jf P w K mg base A bw s H:=
 have fr:∀b∈cA bw,base.get? b=none:=λb hb=>by
  cases q:base.get? b with
  | none=>rfl
  | some o=>
   have:=(AB e.fO hb).1;rw[sub b o q] at this;cases this
 ⟨e.frames,m,λb o h=>e.bs b o (sub b o h),Ab4 sz e.mH,Gj e.fO fr,e.pB,e.bO,e.bare⟩
theorem bF.lam{y:Str}(h:bF P w K mg base x k [y] sp)(hk':k<=k'):∃f,mg x=aS (.ref f)/\jQ P w K mg base k' f sp:=by
 obtain⟨f,fd,hm,hk,F,hb⟩:=h;refine⟨f,hm, .inr hk,λA bw s H u v Q hr e0 rv q=>?_⟩;have pA:K.In s.heap:=e0.mod.pA.keeps λb o e=>(e0.bs b o e).1;exact F.run A bw s H ⟨[u],[]⟩ [u] _ Q E0 (hr.mono hk') e0 (hb s [u] pA rfl) (.cons rv .nil) q
end L2
namespace L2
open PySem PySem.Spec PyProof.Rows
noncomputable def sq:V->List V->Hp->VK->Prop:=λx vs H Q=>∃l xs,∃i:Int,∃y,x= .ref l/\vs=[.int i,y]/\H l=aS (.lst xs)/\0<=i/\i<=xs.length/\xs.length<100000/\Q .bC (upd H l (.lst (xs.take i.toNat++y::xs.drop i.toNat)))
theorem Pp:rG X "list.insert" sq:=by
 intro bu s σ H x vs v us Q I rx rv h;obtain⟨l,xs,i,y,rfl,rfl,hH,h1,h2,hz,q⟩:=h;cases rx;cases rv with
 | cons ri rr=>
  cases rr with
  | cons ry rr=>
  cases rr;obtain⟨t,rfl⟩:=ri
  rename_i u
  obtain⟨z,its,n,r,hl,e⟩:=I.mL hH;have sz:sizeLine=16777216:=by decide
  refine At4 F.slot_list_insert ⟨_,e,rfl⟩ F.entry_list_insert (F.args_list_insert_3 _ _ _)
   (AutoSeq1.list_insert_list_int_val_1 l its.toArray n i t u (by rw[fitsIndex_both (by omega) (by omega)];simp) (by rw[Ab6];omega)) ⟨e,?_⟩
  refine⟨.bC,_,I.qD (its':=its.take i.toNat++u::its.drop i.toNat) hH e ?_ ((r.take _).append (.cons ry (r.drop _))) ?_,rfl,q⟩
  .have n0:¬ i<0:=by omega
   have m0:min i.toNat its.length=i.toNat:=by omega
   simp[n0,m0];exact Ae6 (by simp)
  .rw[Aa5,Aa9,Ac5,Ad2];omega
end L2
namespace HT
open PySem PySem.Spec PyProof.Rows PySem.W PySem.Calls PySem.Builtin
theorem JX:entryFor table "proto.unchain"=aS Aq7.«proto.unchain» := entryFor_of_tree (by kernel_rfl)
theorem Mc{s:aT}{oa:Obj}{e:Value}(he:s.heap.get? a=aS oa)(hd:oa.data= .fields vs)(h2:vs[2]?=aS .none)(h:R (.ok (.ret .none)) s):
  An3 (aX prog w) A (.builtin "proto.unchain" ⟨[e, .ref a, .ref a, .bool false],[]⟩) R s:=by
 refine codeAny_builtin JX ?_;unfold Aq7.«proto.unchain»;refine Aa1 (Ad8 he hd h2 ?_);rw[bS (show (Aj8 == Aj8)=true from by simp)];exact Ab2 h
theorem oH{Q:Flow->aT->Prop}(hh:A.handled=aS (.ref a))(hc:∀(s:aT) (Q:Value->aT->Prop),Q .none s->aW (aX prog w) A c Q E s)
  (h:aW (aX prog w) A x (λv s₁=>∃e t od,v= .ref e/\e≠a/\jZ s₁.heap C fi/\s₁.heap.get? e=aS ⟨.ref C,od, .fields #[.ref t, .none, .none, .none, .bool false, .none], #[]⟩/\(∃oa vs,s₁.heap.get? a=aS oa/\oa.data= .fields vs/\vs[2]?=aS .none)/\
   ∀h':Heap,(∀b,b≠e->h'.get? b=s₁.heap.get? b)->h'.get? e=aS ⟨.ref C,od, .fields #[.ref t, .none, .ref a, .none, .bool true, .none], #[]⟩->E (.ref e) { s₁ with heap:=h' }) E s):
  aW (aX prog w) A (raiseStmt env (aS x) (aS c)) Q E s:=by
 unfold raiseStmt;refine Aa1 (Ac7 h (λv s₁ h₁=>?_) λ_ _ x=>x);obtain⟨e,t,od,rfl,uO,⟨bm,N,nm,q,bs,qT,sn,sub,ab,col,dd,k0,k1,k2,k3,k5,mN,hC,hN,hi,T⟩,he,⟨oa,vs,ha,hda,h2⟩,hE⟩:=h₁;have hcB:(aY C::bm).contains (.type "BaseException")=true:=by rw[AE2,T.hasType Ap6.hasBase,Bool.or_true]
 refine Aa1 (Ae8 (hc _ _ ?_));obtain⟨hp,g,d,tk,os⟩:=s₁
 repeat (first | with_reducible refine Ag0 he ?_ | with_reducible refine Ag0 hC ?_ | (with_reducible refine AG3 hC ?_;rw[hcB]) | wp_step)
 have nCe:e≠C:=λz=>by
  rw[z,hC] at he;cases he
 have g3:(hp.update e (Ak2 λx=>x.setIfInBounds 3 Aj8)).get? e=aS ⟨.ref C,od, .fields #[.ref t, .none, .none, .none, .bool false, .none], #[]⟩:=Ae7 _ he rfl;have g4:((hp.update e (Ak2 λx=>x.setIfInBounds 3 Aj8)).update e (Ak2 λx=>x.setIfInBounds 4 (Ar6 true))).get? e=aS ⟨.ref C,od, .fields #[.ref t, .none, .none, .none, .bool true, .none], #[]⟩:=Ae7 _ g3 rfl;have o4:∀b,b≠e->((hp.update e (Ak2 λx=>x.setIfInBounds 3 Aj8)).update e (Ak2 λx=>x.setIfInBounds 4 (Ar6 true))).get? b=hp.get? b:=λb z=>by rw[Ad7 _ _ (Ak9 z),Ad7 _ _ (Ak9 z)]
 show aW (aX prog w) A (loadPart C (aS headPart)) _ E ⟨((hp.update e (Ak2 λx=>x.setIfInBounds 3 Aj8)).update e (Ak2 λx=>x.setIfInBounds 4 (Ar6 true))),g,d,tk,os⟩;generalize (hp.update e (Ak2 λx=>x.setIfInBounds 3 Aj8)).update e (Ak2 λx=>x.setIfInBounds 4 (Ar6 true))=h4 at g4 o4 ⊢;have hC4:=(o4 C (Ak9 nCe)).trans hC;have yl:=(o4 a (Ak9 uO)).trans ha;clear hC he ha g3
 repeat (first | with_reducible refine Ag0 g4 ?_ | with_reducible refine Ag0 hC4 ?_ | wp_step)
 unfold raiseNew;refine Aa1 (wpAny_handled ?_);rw[hh];have nb:(aY a != aY e)=true:=by
  simp only[bne_iff_ne,ne_eq];intro z;cases z;exact uO rfl
 show aW (aX prog w) A (do
  if (aY a != aY e)=true then do
   let _ <-Ax4 [aY e] (runValue (.builtin "proto.unchain" ⟨[.ref e, .ref a, .ref a, .bool false],[]⟩))
   updateField e 2 (.ref a)
  throw (aY e)) Q E _
 simp only[nb,if_true];refine Aa1 (Ae8 (wpAny_runValue (Mc yl hda h2 ?_)));refine Aa1 ?_;unfold updateField;refine Aa1 (wpAny_load g4 ?_);show aW (aX prog w) A (if 2<6 then update e (Ak2 (·.setIfInBounds 2 (.ref a))) else _) _ E _;rw[bS (by decide)];refine wpAny_update g4 ?_;exact wpAny_throw (hE _ (λb z=>(Ad7 _ _ (Ak9 z)).trans (o4 b z)) (Ae7 _ g4 rfl))
end HT
namespace L2
open PySem PySem.Spec PyProof.Rows PySem.W
noncomputable def Jh(a C:Addr)(od:Option Addr):HO:= .ext λh=>∃o,h.get? a=aS o/\o.cls= .ref C/\o.dict=od/\∃vs,o.data= .fields vs/\vs[2]?=aS .none
theorem TF{o:Obj}(e:h.get? a=aS o)(c:o.cls= .ref C)(d:o.data= .fields vs)(f:vs[2]?=aS .none):bK P w H h a (Jh a C o.dict):=
 ⟨⟨o,e,c,rfl,vs,d,f⟩,⟨o,e⟩,λ_ _ ⟨o,e,c⟩ k=>⟨o,k o e,c⟩⟩
noncomputable def SB(K:aU)(f:Str)(to:TE):TE:=λσ H Q=>to σ H λv H1=>∃a C dx fs y,v= .ref a/\H1 a=aS (Jh a C (aS dx))/\H1 dx=aS (jR dx fs)/\fs.lookup f=aS y/\kP K C/\Aj4 K (.ref C) f=aS aV/\Q y H1
theorem Qm(ho:PE X o to)(hb:Ao5 o f X.env (bh o X.env)=bh o X.env)(hK:X.K=K:=by rfl):PE X (.Attribute o f pos) (SB K f to):=by
 subst hK;intro bu s σ H Q I h;refine Lo hb (bZ (ho bu s σ H _ I h) λu s1 ⟨v,H1,I1,rv,a,C,dx,fs,y,ev,ha,iQ,hl,k,nf,q⟩=>?_);subst ev;obtain rfl:u=aY a:=rv;obtain⟨⟨ob,he,hc,hod,vs,uX,_⟩,_⟩:=(show bK X.prog X.w H1 s1.heap a (Jh a C (aS dx)) from I1.bO a _ ha);obtain⟨⟨mA,hn,hm,_⟩,_⟩:=(show bK X.prog X.w H1 s1.heap dx (jR dx fs) from I1.bO dx _ iQ);obtain⟨w',hw,jY⟩:=fq.some_of (v:=y) (o:=mA f) (by rw[<-hl];exact hm f);exact HT.mW k.toExcKind nf I1.dG k.hd he hc uX hod hn hw (HF jY) ⟨y,H1,I1.tok _,jY,q⟩
theorem Rt(h:to σ H λv H1=>∃a C dx fs y,v= .ref a/\H1 a=aS (Jh a C (aS dx))/\H1 dx=aS (jR dx fs)/\fs.lookup f=aS y/\kP K C/\Aj4 K (.ref C) f=aS aV/\Q y H1):SB K f to σ H Q:=h
theorem xT.of{fs:List (Str×V)}(h:H dx=aS (jR dx fs))(l:fs.lookup ("row":Str)=aS v):xT H (aS dx):=⟨dx,_,rfl,h,λP w H h ok=>by
 obtain⟨⟨mA,hn,hm,_⟩,_⟩:=(show bK P w H h dx (jR dx fs) from ok);obtain⟨u,hu,_⟩:=fq.some_of (v:=v) (o:=mA "row") (by rw[<-l];exact hm "row");exact⟨mA,u,hn,hu⟩⟩
theorem VY{fs:List (Str×V)}(bO:fM P w H h)(di:eF H h a od)(e:od=aS dx)(hx:H dx=aS (jR dx fs))(l:fs.lookup ("row":Str)=aV):∃o,h.get? a=aS o/\o.dict=od/\f2 o=aS .none:=by
 obtain⟨o,e1,e2,c | ⟨dx',ob,q1,q2,q3⟩⟩:=di
 .exact⟨o,e1,e2,c⟩
 .rw[e] at q1;cases q1;rw[hx] at q2;cases q2;obtain⟨mA,u,⟨o1,es1,ep1,g1,d1,_,_,r1⟩,n2⟩:=q3 P w H h (bO dx _ hx);obtain⟨⟨mB,⟨o2,es2,ep2,g2,d2,_,_,r2⟩,m2,_⟩,_⟩:=(show bK P w H h dx (jR dx fs) from bO dx _ hx);rw[g1] at g2;cases g2;rw[d1] at d2;cases d2;have m2:=m2 "row";rw[l, <-r2,r1,n2] at m2;exact m2.elim
section
variable {P:Program}{w:bg}{f:Addr}{E:XK}
theorem T6{s s4:aT}{e t:Addr}(I:Inv (AZ (cW P w) P w K mg base N qual scope f cd A bw s₀ H₀ E) bu σ H s)(ea:H e=aS (iW e C od))(new:s₀.heap.get? e=aV)(wm:s4.os=s.os)(hba:Av9 s4.gens)
  (hl:JU (Ao2 s.heap (e::cA (envOfC qual scope s₀.heap.objs.size f cd::bw))) (envOfC qual scope s₀.heap.objs.size f cd::bw) e (.ref C) (.ref t) s4.heap)
  (ups:∀b∈cA bw,∀o,s.heap.get? b=aS o->∃sl,s4.heap.get? b=aS { o with slots:=sl }) (di:eF (bar e H) s4.heap e od) (q:E (.ref C) od (bar e H)):
  (AZ (cW P w) P w K mg base N qual scope f cd A bw s₀ H₀ E).xe (.ref e) s4:=by
 have kC:(envOfC qual scope s₀.heap.objs.size f cd).frame=aS s₀.heap.objs.size:=rfl;have lS:cA (envOfC qual scope s₀.heap.objs.size f cd::bw)=s₀.heap.objs.size::cA bw:=BC kC;refine HM I.ok.frames kC hl λh2 fl aas kd=>?_;have k1:=fl.1;have ib:Un (cA bw) [] H₀ H s₀.heap s.heap:=I.base;have nl:∀b o,s₀.heap.get? b=aS o->b≠s₀.heap.objs.size:=λb o e=>Ac8 (Ab1 e);have nE:∀b o,s₀.heap.get? b=aS o->b≠e:=λb o q z=>by rw[z,new] at q;cases q
 have mV:∀b o,s.heap.get? b=aS o->b≠e->b∉cA (envOfC qual scope s₀.heap.objs.size f cd::bw)->h2.get? b=aS o:=λb o q h1 h3=>k1 b o (Ao7 _ q λz=>by
  rcases Aa7.mp z with z | z
  .exact h1 z
  .exact h3 z)
 have eU:∀b o,s₀.heap.get? b=aS o->b∉cA bw->b∉cA (envOfC qual scope s₀.heap.objs.size f cd::bw):=λb o e hn z=>by
  rw[lS] at z;rcases Aa7.mp z with z | z
  .exact nl b o e z
  .exact hn z
 have isin:∀b,b∈cA bw->b∈cA (envOfC qual scope s₀.heap.objs.size f cd::bw):=λb hb=>by rw[lS];exact Aa8 _ hb
 have u6:∀b v,H b=aS v->(∀φ,v≠ .ext φ)->b≠e:=λb v q n z=>by rw[z,ea] at q;cases q;exact n _ rfl
 have kT:∀b,bar e H b≠aV->b≠e/\H b≠none:=λb hb=>by
  by_cases z:b=e
  .exact bV (bS z) hb
  .exact⟨z,λq=>hb ((bG z).trans q)⟩
 have sZ:∀b∈cA bw,∀o,s.heap.get? b=aS o->(∀vs,o.data≠ .fields vs)->∃sl,h2.get? b=aS { o with slots:=sl }:=λb hb o e1 nf=>by
  obtain⟨sl,e2⟩:=ups b hb o e1;obtain⟨oF,e3⟩:=aas b _ e2 nf;exact⟨oF,e3⟩
 refine⟨e,C,t,od,bar e H,rfl,wm.trans I.os,hba,?_,(RT I.bO ea).on λb u hb q=>mV b u q (kT b hb).1 (λz=>(kT b hb).2 (I.dc b z)),⟨_,fl,λb hb hn o q=>?_⟩,di.on kd (let ⟨o,e,_⟩:=fl.there;⟨o,e⟩),q⟩
 .refine⟨λb o q hH hn _=>?_,λb o q hH hb _=>?_,λb o q hH _=>?_,λb o q _=>?_,λb xs q=>?_,λb o u q=>?_,λb ps q=>?_⟩
  .exact mV b o (ib.keep b o q hH hn (by simp)) (nE b o q) (eU b o q hn)
  .obtain⟨sl,e1⟩:=ib.slot b o q hH hb (by simp);obtain⟨_,o',e',nf⟩:=AB I.stack (isin b hb);rw[e1] at e';cases e';obtain⟨oF,e3⟩:=sZ b hb _ e1 nf;exact⟨oF,e3⟩
  .exact(bG (nE b o q)).trans (ib.free b o q hH (by simp))
  .obtain⟨o1,e1⟩:=ib.there b o q (by simp);by_cases hb:b∈cA bw
   .obtain⟨_,o',e',nf⟩:=AB I.stack (isin b hb);obtain⟨oF,e3⟩:=sZ b hb _ e' nf;exact⟨_,e3⟩
   .exact⟨o1,mV b o1 e1 (nE b o q) (eU b o q hb)⟩
  .have:=ib.gY b xs q;exact(bG (u6 b _ this λφ z=>by cases z)).trans this
  .have:=ib.gz b o u q;exact(bG (u6 b _ this λφ z=>by cases z)).trans this
  .obtain⟨m,this⟩:=ib.gB b ps q;exact⟨m,(bG (u6 b _ this λφ z=>by cases z)).trans this⟩
 .have nS:b≠e:=by
   rcases hb with hb | ⟨o1,e1⟩
   .exact(kT b hb).1
   .exact nE b o1 e1
  have kJ:b∉cA (envOfC qual scope s₀.heap.objs.size f cd::bw):=λz=>by
   rcases hb with hb | ⟨o1,e1⟩
   .exact(kT b hb).2 (I.dc b z)
   .exact eU b o1 e1 hn z
  obtain⟨o2,e2⟩:∃o2,s.heap.get? b=aS o2:=by
   rcases hb with hb | ⟨o1,e1⟩
   .cases hx:H b with
    | none=>exact bV hx (kT b hb).2
    | some u=>exact FG (I.bO b u hx)
   .exact ib.there b o1 e1 (by simp)
  have e3:=mV b o2 e2 nS kJ;have q:h2.get? b=aS o:=q;rw[q] at e3;cases e3;exact Ao7 _ e2 λz=>by
   rcases Aa7.mp z with z | z
   .exact nS z
   .exact kJ z
end
section
variable {s:aT}{E:XK}{e:Value}
theorem WT{R:aT->Prop}(I:Inv X bu σ H s)(fQ:X.stack=X.env::X.bw)(hf:X.env.frame=aS X.env.locals)(h:cW X.prog X.w X.stack H s E e s₁)
  (k:∀(a C t:Addr) (od:Option Addr) (H':Hp) (B h3:Heap),e= .ref a->B.FlyingW X.stack a (.ref C) (.ref t) h3->s₁.heap.UpToSlots h3->eF H' h3 a od->(∀h4:Heap,B.FlyingW X.stack a (.ref C) (.ref t) h4->s₁.heap.UpToSlots h4->Inv X bu σ H' { s₁ with heap:=h4 }/\∀u,bK X.prog X.w (upd H' a u) h4 a u->Inv X bu σ (upd H' a u) { s₁ with heap:=h4 })->H' a=aV->E (.ref C) od H'->R { s₁ with heap:=h3 }):
  aW (aX X.prog X.w) X.A (Ao9 e X.env) (λ_ s₂=>aW (aX X.prog X.w) X.A (Aq4 e aV) (λ_ s₃=>R s₃) E2 s₂) E1 s₁:=by
 obtain⟨a,C,t,od,H',rfl,os,bare,un,bO,⟨B,fl,mz⟩,di,q⟩:=h;have jP:∀b∈cA X.stack,H' b=none:=λb hb=>by
  obtain⟨_,o,e,_⟩:=AB I.stack hb;exact un.free b o e (I.dc b hb) (by simp)
 obtain⟨oa,rZ,xV⟩:=fl.there;have af:a∉cA X.stack:=λz=>by
  obtain⟨_,_,_,oe,vs,T,oT,ts,he,nX,hd,_⟩:=id fl;obtain⟨_,o',e',nf⟩:=AB fl.2.2.1 z;rw[he] at e';cases e';exact nf _ hd
 have an:H' a=none:=by
  cases hx:H' a with
  | none=>rfl
  | some u=>
   have:=mz a (.inl (by rw[hx];exact λz=>by cases z)) af oa rZ;rw[fl.2.1] at this;cases this
 have as:s.heap.get? a=none:=by
  cases hx:s.heap.get? a with
  | none=>rfl
  | some o=>
   have:=mz a (.inr ⟨o,hx⟩) af oa rZ;rw[fl.2.1] at this;cases this
 have nB:=fl;rw[fQ] at nB;refine Hu (by rw[I.ok.frames,fQ]) hf nB λh2 hh u2 kd2=>SE (s:={ s₁ with heap:=h2 }) hh λh3 kN u3 xW=>?_;rw[<-fQ] at kN;refine k a C t od H' B h3 rfl kN (Eh u2 u3) (di.on (kd2.trans xW) (let ⟨o,e,_⟩:=kN.there;⟨o,e⟩)) (λh4 qN u4=>?_) an q;obtain⟨xX,qO⟩:=MO un bO fl mz jP qN u4;exact⟨I.kF (s':={ s₁ with heap:=h4 }) (ch:=[]) os xX qO bare (λ_ z=>by cases z),λu ou=>I.kF (s':={ s₁ with heap:=h4 }) (ch:=[]) os (Mn xX an as) (Ml qO an ou) bare (λ_ z=>by cases z)⟩
end
section
variable {M:Az3}{E:Value->aT->Prop}{s:aT}{e:Addr}{cls:Value}{l:List Env}{Q:Unit->aT->Prop}
theorem Nd(x:Aq5 base l e cls a0 L s.heap)(k:∀h',Aq5 base l e cls a0 L h'->(∀b o,s.heap.get? b=aS o->(∀vs,o.data≠ .fields vs)->h'.get? b=aS o)->KD s.heap h'->Q () { s with heap:=h' }):aW M A (Aq4 (.ref e) (aS L)) Q E s:=by
 refine Ac7 (B6 (B1 (.ref e) (aS L)) (Q:=λ_ s'=>∃h',s'={ s with heap:=h' }/\Aq5 base l e cls a0 L h'/\∀b o,s.heap.get? b=aS o->(∀vs,o.data≠ .fields vs)->h'.get? b=aS o) (E:=λ_ _=>False) ?_) (λ_ s' ⟨⟨h',e1,a,b⟩,c⟩=>by subst e1;exact k h' a b c) λ_ _ z=>z.1.elim;obtain⟨st,ne,hl,ob,fs,T,ot,us,g1,g2,g3,g4,g5,g6,g7,g8,g9⟩:=x;have pK:∀(v:Value) b,b≠T->(s.heap.update T (Ak2 (·.setIfInBounds 3 v))).get? b=s.heap.get? b:=λv b z=>Ad7 _ _ (Ak9 z);have nr:∀b o,s.heap.get? b=aS o->(∀vs,o.data≠ .fields vs)->b≠T:=λb o q n z=>by
  rw[z,g7] at q;cases q;exact n us g8
 have h3:=(Af3.mp g9).1;unfold Aq4;refine Aa1 (Ad8 g1 g3 g4 ?_);rw[bS (by simp)];exact Ay8 g7 g8 h3 ⟨_,rfl,⟨λb o q=>(pK _ b λz=>by rw[z,g5] at q;cases q).trans (st b o q),ne,hl.of_keeps λb o q n=>⟨o,(pK _ b (nr b o q n)).trans q,rfl⟩,ob,fs,T,_,_,(pK _ e (Ak9 g6)).trans g1,g2,g3,g4,g5,g6,Ae7 _ g7 (AC0 (Ap0 g8 _)),Ap0 g8 _,by simp[h3]⟩,λb o q n=>(pK _ b (nr b o q n)).trans q⟩
theorem Wj(hf:env.frame=aS L)(x:Aq5 base l e cls a0 L s.heap)
  (k:∀h',Aq5 base l e cls a0 L h'->(∀b o,s.heap.get? b=aS o->(∀vs,o.data≠ .fields vs)->h'.get? b=aS o)->KD s.heap h'->XE (.ref e) { s with heap:=h' }):
  aW M A' (passOn u7 (.ref e) env:Sem Flow) (λ_ _=>False) (notedBy M A' env (cameBackBy M A env XE)) s:=by
 obtain⟨st,ne,hl,ob,fs,T,ot,us,g1,g2,g3,g4,g5,g6,g7,g8,g9⟩:=id x;unfold PySem.passOn;refine Aa1 (Ad8 g1 g3 g4 ?_);rw[bG (by simp),hf];refine Aa1 (Nd x λh1 x1 k1 d1=>wpAny_throw ?_);refine wpAny_noteFrame_againW (s:={ s with heap:=h1 }) hf x1.2.2.2 ?_;obtain⟨_,_,_,ob',vL,T',_,_,zj,_,g3',g4',_⟩:=id x1;unfold cameBackBy;refine Aa1 (Ad8 (s:={ s with heap:=h1 }) zj g3' g4' ?_);rw[bG (by simp),hf];exact Nd (s:={ s with heap:=h1 }) x1 λh2 x2 k2 d2=>k h2 x2 (λb o q n=>k2 b o (k1 b o q n) n) (d1.trans d2)
theorem L8{A':An2}{n:Str}{m:Str->Option Value}{t:Addr}(kC:A'.frames=aS (env::bw))(hf:env.frame=aS L)(lT:env.locals=L)(hkn:env.kindOf n=aS .local)(nX:(env.scope.kind == .class||(env.scope.kind == .module&&env.locals != env.globals))=false)
  (hl:s.heap.FunFrames base (env::bw)) (hkb:base.StaysIn s.heap) (ye:base.get? e=aV) (hbL:base.get? L=aV) (hL:s.heap.Ns L m) (he:s.heap.get? e=aS ⟨.ref C,od, .fields #[.ref t, .none,ctx, .none, .bool true, .none], #[]⟩)
  (k:∀h' tk,Aq5 base (env::bw) e (.ref C) (.ref t) L h'->(∀b o,b≠L->s.heap.get? b=aS o->(∀vs,o.data≠ .fields vs)->∃sl,h'.get? b=aS { o with slots:=sl })->(∃o,h'.get? e=aS o/\o.dict=od)->XE (.ref e) { s with heap:=h',toks:=tk }):
  AsSuiteRaised M A' env n pos (notedBy M A' env (cameBackBy M A env XE)) (.ref e) s:=by
 have note:aW M A' (Ao9 (.ref e) env) (λ_ s'=>∃h',s'={ s with heap:=h' }/\Heap.NotedW base (env::bw) e (.ref C) (.ref t) (Ay6 L) s.heap h') (λ_ _=>False) s:=by
  unfold Ao9;simp only[hf];refine Aa1 (Ad8 (x:=Aj8) he rfl rfl ?_);rw[bG (show ¬ (Aj8 != Aj8)=true from by simp)];exact wpAny_entryW kC hl hf he hkb ye rfl (by simp) rfl λh' z=>⟨h',rfl,z⟩
 refine Ac7 (B6 (LW (.ref e) env) note) (λ_ s1 ⟨⟨h1,e1,n1,n2,n3,n4⟩,d1⟩=>?_) λ_ _ z=>z.1.elim;subst e1;obtain⟨o1,g1,c1⟩:=n3.there;have q1:=d1.at' he g1;obtain⟨oL,zE,zF,gL,dL,rL⟩:=id hL;obtain⟨slL,gL1⟩:=n4 L oL gL (λvs z=>by rw[dL] at z;cases z);have hL1:h1.Ns env.locals m:=by rw[lT];exact⟨_,zE,zF,gL1,dL,rL⟩
 refine wpAny_nameGoes (s:={ s with heap:=h1 }) hkn hL1 nX λh2 m2 kJ lN=>?_;rw[lT] at kJ lN;have sb:∀b,b≠L->h2.get? b=h1.get? b:=λb z=>lN.2 b z;obtain⟨ob,fs,T,oT,us,t1,t2,t3,t4,t5,t6,t7,t8,t9⟩:=id n3;have nfL:∀b o us,h1.get? b=aS o->o.data= .fields us->b≠L:=λb o us q z y=>by
  rw[y,gL1] at q;cases q;rw[dL] at z;cases z
 have eL:=nfL e _ _ t1 t3;have TL:=nfL T _ _ t7 t8;obtain⟨oL2,es2,ep2,gL2,dL2,_⟩:=id kJ;have fun2:h2.FunFrames base (env::bw):=by
  have aux:∀{l:List Env},h1.FunFrames base l->h2.FunFrames base l:=λ{l}=>by
   induction l with
   | nil=>exact λ_=>trivial
   | cons en l ih=>
    rintro⟨a1,⟨L',o',b1,b2,b3,b4⟩,a3⟩;refine⟨a1,?_,ih a3⟩;by_cases z:L'=L
    .subst z;exact⟨L',oL2,b1,b2,gL2,λvs y=>by rw[dL2] at y;cases y⟩
    .exact⟨L',o',b1,b2,(sb L' z).trans b3,b4⟩
  exact aux n2
 have held:Aq5 base (env::bw) e (.ref C) (.ref t) L h2:=⟨λb o q=>(sb b λz=>by rw[z,hbL] at q;cases q).trans (n1 b o q),ye,fun2,ob,fs,T,oT,us,(sb e eL).trans t1,t2,t3,t4,t5,t6,(sb T TL).trans t7,t8,t9⟩;refine Wj (s:={ s with heap:=h2,toks:=s.toks+1 }) hf held λh3 x3 k3 d3=>?_;refine k h3 _ x3 (λb o z q n=>?_) ?_
 .obtain⟨sl,q1⟩:=n4 b o q n;exact⟨sl,k3 b _ ((sb b z).trans q1) n⟩
 .obtain⟨o3,g3,_⟩:=x3.there;exact⟨o3,g3,(d3.at' ((sb e eL).trans g1) g3).1.trans q1.1⟩
end
section
variable {P:Program}{w:bg}{f:Addr}{E:XK}
noncomputable def Si(K:aU)(CL C:Addr)(j:Nat)(sp:Sp)(ta:TA)(E:XK)(σ:St):XK:=λcls od H'=>∃Cc dx fs,cls= .ref Cc/\As3 K cls (.ref CL)=aS true/\od=aS dx/\H' dx=aS (jR dx fs)/\fs.lookup ("row":Str)=aV/\
 ∀a:Addr,H' a=aV->ta (σ.set j (aS (.ref a))) (upd H' a (Jh a Cc od)) λvs H1=>vs.length<=900/\H1 a≠aV/\∀e,H1 e=aV->sp (.ref e::vs) (upd H1 e (iW e C aV)) (λv H2=>v= .bC/\∃ve,H2 e=aS (iW e C ve)/\H2 a=aS (Jh a Cc od)/\xT (bar e H2) ve/\E (.ref C) ve (bar e H2)) E0
noncomputable def UP(K:aU)(CL C:Addr)(j:Nat)(sp vf:Sp)(E:XK)(vg ta:TA):TS:=λD σ H=>vg σ H λvs H1=>vf vs H1 (λv H2=>D.rt v H2) (Si K CL C j sp ta E σ)
theorem TB{x n y yf:Str}{xp hp np vh vj fp wA rp:Pos}
  (hm:mg x=aS (.ref CL)) (hR:B5 P w K mg base y C k ps sp) (hr:cJ (k+1) (A.deeper (envOfC qual scope s₀.heap.objs.size f cd))) (hN:N.Nodup) (hj:N[j]?=aS n) (hx:scope.names.lookup n=aS .local)
  (hF:BJ P w K mg base yf k0 zG vf) (zH:cJ k0 (A.deeper (envOfC qual scope s₀.heap.objs.size f cd))) (ha0:∀(pn:List (Addr×Obj)) (xe:Value->aT->Prop),PA ((AZ (cW P w) P w K mg base N qual scope f cd A bw s₀ H₀ E).ji pn xe) (e1::es) vg)
  (ha:∀(a:Addr) (xe:Value->aT->Prop),PA ((AZ (cW P w) P w K mg base N qual scope f cd A bw s₀ H₀ E).jA a xe) (e₀::rest) ta)
  (he:aZ (e₀::rest) (envOfC qual scope s₀.heap.objs.size f cd)=(false,bh e₀ (envOfC qual scope s₀.heap.objs.size f cd))::aZ rest (envOfC qual scope s₀.heap.objs.size f cd):=by rfl)
  (kr:(An9 dU (aZ rest (envOfC qual scope s₀.heap.objs.size f cd))).any (·.1)=false:=by rfl)
  (hg:Gl (AZ (cW P w) P w K mg base N qual scope f cd A bw s₀ H₀ E) x:=by rfl) (hd:(x == ("__debug__":Str))=false:=by decide) (hgy:Gl (AZ (cW P w) P w K mg base N qual scope f cd A bw s₀ H₀ E) y:=by rfl) (hdy:(y == ("__debug__":Str))=false:=by decide) (hgf:Gl (AZ (cW P w) P w K mg base N qual scope f cd A bw s₀ H₀ E) yf:=by rfl) (uz:(yf == ("__debug__":Str))=false:=by decide)
  (se:aZ (e1::es) (envOfC qual scope s₀.heap.objs.size f cd)=(false,bh e1 (envOfC qual scope s₀.heap.objs.size f cd))::aZ es (envOfC qual scope s₀.heap.objs.size f cd):=by rfl) (aat:(An9 wA (aZ es (envOfC qual scope s₀.heap.objs.size f cd))).any (·.1)=false:=by rfl):
  PS (AZ (cW P w) P w K mg base N qual scope f cd A bw s₀ H₀ E) (.Try [.Return (aS (.Call (.Name yf fp) (e1::es) [] wA)) rp] [.ExceptHandler (aS (.Name x xp)) (aS n) [.Raise (aS (.Call (.Name y np) (e₀::rest) [] dU)) (aS (.Constant .none cj vj)) vh] hp] [] [] pos) (UP K CL C j sp vf E vg ta):=by
 obtain⟨fi,fd,hmy,Mi,F,zy⟩:=hR;intro bu s σ H D I h;refine wpAny_Try_except ?_;generalize hXF:(λe s₁=>aW (aX P w) (A.deeper (envOfC qual scope s₀.heap.objs.size f cd)) (Ao9 e (envOfC qual scope s₀.heap.objs.size f cd)) (λ_ s₂=>aW (aX P w) (A.deeper (envOfC qual scope s₀.heap.objs.size f cd)) (Aq4 e aV) (λ_ s₃=>aW (aX P w) (A.deeper (envOfC qual scope s₀.heap.objs.size f cd)) (handleBy e (envOfC qual scope s₀.heap.objs.size f cd) [.ExceptHandler (aS (.Name x xp)) (aS n) [.Raise (aS (.Call (.Name y np) (e₀::rest) [] dU)) (aS (.Constant .none cj vj)) vh] hp]) (SP (AZ (cW P w) P w K mg base N qual scope f cd A bw s₀ H₀ E) bu D) (AZ (cW P w) P w K mg base N qual scope f cd A bw s₀ H₀ E).xe s₃) (AZ (cW P w) P w K mg base N qual scope f cd A bw s₀ H₀ E).xe s₂) (AZ (cW P w) P w K mg base N qual scope f cd A bw s₀ H₀ E).xe s₁:Value->aT->Prop)=XF;have pass:∀H1 s1 e s',Inv (AZ (cW P w) P w K mg base N qual scope f cd A bw s₀ H₀ E) bu σ H1 s1->cW P w (envOfC qual scope s₀.heap.objs.size f cd::bw) H1 s1 (Si K CL C j sp ta E σ) e s'->XF e s':=by
  intro H1 s1 e s' zB hc;rw[<-hXF];refine WT zB rfl rfl hc λa Cc t od H' B h3 e0 kN u3 zC inv an q=>?_;subst e0;obtain⟨C',dx,fs,eC,xF,eod,iQ,aau,hrd⟩:=q;cases eC;have I3:=(inv h3 kN u3).1;obtain⟨oa,rZ,xV⟩:=kN.there;refine wpAny_handleBy_cons (codeAny_handlers_test ?_) (by intro q;cases q);refine Ap9 I.ok.kind hg (Ay5 (by have z:=I.mod.glob.keeps I3.bk;rw[<-I.ok.glob] at z;exact z) hm ?_) hd;have lt:Looks (aX P w) h3 (typeOf (.ref a)) (.ref Cc):=xV▸(Looks.ld rZ).andThen .now;refine Ao6 (s:={ s' with heap:=h3 }) (PySem.W.exm_one (K:=K) I3.dG lt xF) ?_;show An3 _ _ (.handlers (.ref a) [.ExceptHandler aV (aS n) _ hp] _) _ _;refine codeAny_handlers_suite_as ?_;refine OB (base:=B) (l:=envOfC qual scope s₀.heap.objs.size f cd::bw) (s:={ s' with heap:=h3 }) kN.1 kN.2.2.1 kN.2.2.2 λh4 k1 k2 k3 k4 kd4=>?_;have qN:B.FlyingW (envOfC qual scope s₀.heap.objs.size f cd::bw) a (.ref Cc) (.ref t) h4:=⟨k1,kN.2.1,k2,k3⟩;have u4:s'.heap.UpToSlots h4:=Eh u3 λb o e nf=>⟨o.slots,k4 b o e nf⟩;have di4:=zC.on kd4 (let ⟨o,e,_⟩:=qN.there;⟨o,e⟩);obtain⟨I40,I41⟩:=inv h4 qN u4;obtain⟨o4,g41,g42,g43⟩:=VY I40.bO di4 eod iQ aau;obtain⟨oc4,gc4,cc4⟩:=qN.there;rw[g41] at gc4;cases gc4;obtain⟨vs4,dv4,fv4⟩:∃vs,o4.data= .fields vs/\vs[2]?=aS .none:=by
   unfold f2 at g43;split at g43
   .rename_i vs e1
    exact⟨vs,e1,g43⟩
   .cases g43
  have I4:=I41 (Jh a Cc od) (g42▸TF g41 cc4 dv4 fv4);refine CA (v:= .ref a) I4 hN hj (.inl hx) rfl (λs5 I5=>?_) (.inr hx);generalize hXE:(λ(x:Value) (s:aT)=>AsSuiteRaised (aX P w) ((A.deeper (envOfC qual scope s₀.heap.objs.size f cd)).mark (aS (.ref a))) (envOfC qual scope s₀.heap.objs.size f cd) n hp (notedBy (aX P w) ((A.deeper (envOfC qual scope s₀.heap.objs.size f cd)).mark (aS (.ref a))) (envOfC qual scope s₀.heap.objs.size f cd) (cameBackBy (aX P w) (A.deeper (envOfC qual scope s₀.heap.objs.size f cd)) (envOfC qual scope s₀.heap.objs.size f cd) (AZ (cW P w) P w K mg base N qual scope f cd A bw s₀ H₀ E).xe)) x s)=XE;suffices key:aW (aX P w) ((A.deeper (envOfC qual scope s₀.heap.objs.size f cd)).mark (aS (.ref a))) (execs [.Raise (aS (.Call (.Name y np) (e₀::rest) [] dU)) (aS (.Constant .none cj vj)) vh] (envOfC qual scope s₀.heap.objs.size f cd)) (λ_ _=>False) XE s5 by
   exact Ac7 key (λ_ _ z=>z.elim) λx s3 z=>z
  refine AB6 (bZ (Q:=λ_ _=>False) ?_ λ_ _ z=>z.elim);rw[arm_exec_Raise];refine Aa1 (Ag1 ?_);refine HT.oH (C:=C) (fi:=fi) (a:=a) rfl (λs Q q=>Aa1 (Constant_none (Aa1 (Ag1 (Ab2 q))))) (Aa1 (Ac7 (Q:=λv s₁=>∃e t od,v= .ref e/\e≠a/\HT.jZ s₁.heap C fi/\s₁.heap.get? e=aS ⟨.ref C,od, .fields #[.ref t, .none, .none, .none, .bool false, .none], #[]⟩/\(∃oa vs,s₁.heap.get? a=aS oa/\oa.data= .fields vs/\vs[2]?=aS .none)/\
   ∀h':Heap,(∀b,b≠e->h'.get? b=s₁.heap.get? b)->h'.get? e=aS ⟨.ref C,od, .fields #[.ref t, .none, .ref a, .none, .bool true, .none], #[]⟩->XE (.ref e) { s₁ with heap:=h' }) ?_ (λv s₃ h₃=>Aa1 (Ag1 (Ab2 h₃))) λ_ _ x=>x))
  refine Af4 (DE (X:=(AZ (cW P w) P w K mg base N qual scope f cd A bw s₀ H₀ E).jA a XE) I5.jA hgy hmy ?_ hdy);refine An4 (h₀:=base) I.ok.mod.pA Mi.kp (bZ (ha a XE dU bu s5 _ _ _ I5.jA (hrd a an)) λus s6 ⟨vs,H6,I6,r,hl,nz,q⟩=>⟨I6.dG,?_⟩) he kr;have hq:=q (s6.heap.objs.size+1) (I6.bO.fresh (Ag5 _));have uO:s6.heap.objs.size+1≠a:=λz=>nz (by rw[<-z];exact I6.bO.fresh (Ag5 _));have rS:us.length<=1000:=by rw[<-r.length];omega
  have kp:∀b o,s6.heap.get? b=aS o->((s6.heap.push { cls:= .type "tuple",data:= .seq us.toArray }).push { cls:= .ref C,data:= .fields #[.ref s6.heap.objs.size, .none, .none, .none, .bool false, .none] }).get? b=aS o:=λb o e=>Aa4 _ (Aa4 _ e);have qU:((s6.heap.push { cls:= .type "tuple",data:= .seq us.toArray }).push { cls:= .ref C,data:= .fields #[.ref s6.heap.objs.size, .none, .none, .none, .bool false, .none] }).get? (s6.heap.objs.size+1)=aS { cls:= .ref C,data:= .fields #[.ref s6.heap.objs.size, .none, .none, .none, .bool false, .none] }:=by heap_get
  have I7:=I6.laid (a:=s6.heap.objs.size+1) (o:=iW (s6.heap.objs.size+1) C aV) (t':=s6.toks) kp (Ag5 _) (Pf qU);have r2:Vals (V.ref (s6.heap.objs.size+1)::vs) (aY (s6.heap.objs.size+1)::us):= .cons rfl r;have hlen:(aY (s6.heap.objs.size+1)::us).length=ps.length:=by
   have e:=r2.length;rw[F.len _ _ _ _ hq] at e;exact e.symm
  have hdp:(((A.deeper (envOfC qual scope s₀.heap.objs.size f cd)).mark (aS (.ref a))).under (.builtin "type.__call__" ⟨.ref C::us,[]⟩)).depth+3*k+5<recursionLimit:=by
   have:=hr.dp;rw[IZ];show (A.deeper (envOfC qual scope s₀.heap.objs.size f cd)).depth+1+3*k+5<_;omega
  have hun:(((A.deeper (envOfC qual scope s₀.heap.objs.size f cd)).mark (aS (.ref a))).under (.builtin "type.__call__" ⟨.ref C::us,[]⟩)).units+16*k+200<cLine:=by
   have:=hr.un;rw[IP];show (A.deeper (envOfC qual scope s₀.heap.objs.size f cd)).units+_+16*k+200<_;omega
  refine Ah2 (HT.mX I6.dG (HT.kR I6.dG Mi.wg) (beq_iff_eq.mp Mi.fn) rS (Ao3 (F.run _ _ _ _ ⟨aY (s6.heap.objs.size+1)::us,[]⟩ (aY (s6.heap.objs.size+1)::us) _ _ E0 hdp hun
   (I7.oj.make C us []) (by have:=zy _ (aY (s6.heap.objs.size+1)::us) I7.dG (by simpa using hlen);simpa using this) r2 hq) λr s' mJ=>?_))
  cases r with
  | error e=>exact Aj2 mJ
  | ok fl=>
   cases fl with
   | ret u=>
    obtain⟨v,H8,I8,rv,ev,ve,e8,a8,mk8,q8⟩:=I7.after mJ;subst ev;have new:s₀.heap.get? (s6.heap.objs.size+1)=none:=AC2 (Ab4 I6.sz (Ag5 _));generalize s6.heap.objs.size+1=e at e8 mk8 q8 uO new ⊢;obtain⟨⟨t0,he8⟩,_⟩:=(show bK P w H8 s'.heap e (iW e C ve) from I8.bO _ _ e8);obtain⟨⟨oa8,ga8,_,_,va8,da8,fa8⟩,_⟩:=(show bK P w H8 s'.heap a (Jh a Cc od) from I8.bO _ _ a8);have I9:Inv (AZ (cW P w) P w K mg base N qual scope f cd A bw s₀ H₀ E) bu _ H8 s':=I8.unmark I.ok;refine⟨rv,⟨e,t0,ve,rfl,uO,HT.kR I8.dG Mi.wg,he8,⟨oa8,va8,ga8,da8,fa8⟩,λh9 sb ge=>?_⟩⟩;have lS:cA (envOfC qual scope s₀.heap.objs.size f cd::bw)=s₀.heap.objs.size::cA bw:=BC rfl;obtain⟨m9,zI,_⟩:=id I9.loc;have zI:s'.heap.Ns s₀.heap.objs.size m9:=zI;have nfe:∀b o,s'.heap.get? b=aS o->(∀vs,o.data≠ .fields vs)->b≠e:=λb o q n z=>by
     rw[z,he8] at q;cases q;exact n _ rfl
    have nLe:s₀.heap.objs.size≠e:=by
     obtain⟨oL,zE,zF,gL,dL,_⟩:=id zI;exact nfe _ _ gL λvs z=>by rw[dL] at z;cases z
    rw[<-hXE];refine L8 (base:=Ao2 s'.heap (e::cA (envOfC qual scope s₀.heap.objs.size f cd::bw))) (L:=s₀.heap.objs.size) (m:=m9) (C:=C) (t:=t0) (od:=ve) (ctx:= .ref a) I.ok.frames rfl rfl hx (by rw[show (envOfC qual scope s₀.heap.objs.size f cd).scope.kind= .function from I.ok.kind];rfl) ?_ ?_ (Al8 _ Ab0) (Al8 _ (by rw[lS];simp)) ?_ ge ?_
    .exact(Hn I9.stack λb hb=>Al8 _ (Aa8 _ hb)).of_keeps λb o q n=>⟨o,(sb b (nfe b o q n)).trans q,rfl⟩
    .intro b o q;have nS:b≠e:=λz=>by rw[z,Al8 _ Ab0] at q;cases q
     exact(sb b nS).trans (Ay4 _ q)
    .obtain⟨oL,zE,zF,gL,dL,rL⟩:=id zI;exact⟨oL,zE,zF,(sb _ nLe).trans gL,dL,rL⟩
    .intro zJ tk held ups ⟨o10,g10,d10⟩;refine T6 (s4:={ s' with heap:=zJ,toks:=tk }) I9 e8 new rfl I9.bare ⟨held.1,held.2.1,held.2.2.1,_,held.2.2.2⟩ (λb hb o q=>?_) ⟨o10,g10,d10, .inr mk8⟩ q8;obtain⟨_,o',e',nf⟩:=AB I9.stack (show b∈cA (envOfC qual scope s₀.heap.objs.size f cd::bw) by rw[lS];exact Aa8 _ hb);rw[q] at e';cases e';obtain⟨_,o'',e'',_⟩:=AB I.ok.fO hb;exact ups b o (Ac8 (Ab1 e'')) ((sb b (nfe b o q nf)).trans q) nf
   | next=>exact Aj2 mJ
   | brk=>exact Aj2 mJ
   | cont=>exact Aj2 mJ
 obtain⟨ff,ffd,hmf,hkf,FF,hbf⟩:=hF;have body:aW (aX P w) (A.deeper (envOfC qual scope s₀.heap.objs.size f cd)) (execs [.Return (aS (.Call (.Name yf fp) (e1::es) [] wA)) rp] (envOfC qual scope s₀.heap.objs.size f cd)) (SP ((AZ (cW P w) P w K mg base N qual scope f cd A bw s₀ H₀ E).ji ((AZ (cW P w) P w K mg base N qual scope f cd A bw s₀ H₀ E).pn++bu) XF) [] D) XF s:=by
  have It:Inv ((AZ (cW P w) P w K mg base N qual scope f cd A bw s₀ H₀ E).ji ((AZ (cW P w) P w K mg base N qual scope f cd A bw s₀ H₀ E).pn++bu) XF) [] σ H s:=I.ji;have call:aW (aX P w) (A.deeper (envOfC qual scope s₀.heap.objs.size f cd)) (bh (.Call (.Name yf fp) (e1::es) [] wA) (envOfC qual scope s₀.heap.objs.size f cd)) (EP ((AZ (cW P w) P w K mg base N qual scope f cd A bw s₀ H₀ E).ji ((AZ (cW P w) P w K mg base N qual scope f cd A bw s₀ H₀ E).pn++bu) XF) [] σ (λv H2=>D.rt v H2)) XF s:=by
   refine Af4 (DE (X:=(AZ (cW P w) P w K mg base N qual scope f cd A bw s₀ H₀ E).ji ((AZ (cW P w) P w K mg base N qual scope f cd A bw s₀ H₀ E).pn++bu) XF) It hgf hmf ?_ uz);refine An4 (h₀:=base) It.ok.mod.pA hkf (bZ (ha0 _ _ wA [] s σ H _ It h) λus s1 ⟨vs,H1,I1,r,q⟩=>⟨I1.dG,?_⟩) se aat;have hl:(us++[]).length=zG.length:=by rw[Ap1, <-r.length];exact FF.len _ _ _ _ q
   have r2:Vals vs (us++[]):=by rw[Ap1];exact r
   refine Ah2 (Ao3 (FF.run (A.deeper (envOfC qual scope s₀.heap.objs.size f cd)) (envOfC qual scope s₀.heap.objs.size f cd::bw) s1 H1 ⟨us,[]⟩ (us++[]) vs _ _ zH I1.oj (hbf s1 us I1.dG hl) r2 q) λr s' hq=>?_);cases r with
   | error e=>exact pass H1 s1 e s' (I1.iU I.ok) hq
   | ok fl=>
    cases fl with
    | ret u=>exact I1.after hq
    | next=>exact Aj2 hq
    | brk=>exact Aj2 hq
    | cont=>exact Aj2 hq
  have ret:aW (aX P w) (A.deeper (envOfC qual scope s₀.heap.objs.size f cd)) (exec (.Return (aS (.Call (.Name yf fp) (e1::es) [] wA)) rp) (envOfC qual scope s₀.heap.objs.size f cd)) (SP ((AZ (cW P w) P w K mg base N qual scope f cd A bw s₀ H₀ E).ji ((AZ (cW P w) P w K mg base N qual scope f cd A bw s₀ H₀ E).pn++bu) XF) [] D) XF s:=
   wpAny_Return_some (bZ call λv s1 ⟨x,H1,I1,r1,q1⟩=>⟨x,σ,H1,I1,r1,q1⟩)
  refine AB6 (bZ ret λf s1 q=>?_);cases f with
  | next=>exact Aq0 q
  | ret v=>exact q
  | brk=>exact q
  | cont=>exact q
 subst hXF;refine Ac7 body (λf s₁ hq=>?_) λ_ _ y=>y;cases f with
 | next=>
  obtain⟨σ',H',I',q'⟩:=hq;exact Aq0 ⟨σ',H',I'.iU I.ok,q'⟩
 | brk=>
  obtain⟨σ',H',I',q'⟩:=hq;exact⟨σ',H',I'.iU I.ok,q'⟩
 | cont=>
  obtain⟨σ',H',I',q'⟩:=hq;exact⟨σ',H',I'.iU I.ok,q'⟩
 | ret u=>
  obtain⟨v',σ',H',I',r',q'⟩:=hq;exact⟨v',σ',H',I'.iU I.ok,r',q'⟩
theorem Tl{D:Ends}(h:vg σ H λvs H1=>vf vs H1 (λv H2=>D.rt v H2) (Si K CL C j sp ta E σ)):UP K CL C j sp vf E vg ta D σ H:=h
end
noncomputable def QI(E:XK)(P:Addr)(qual:Str)(idx:List Nat)(sp:Addr->Sp->Sp)(t1 t2 t3 tb:TE):TE:=λσ H Q=>t1 σ H λv1 H1=>t2 σ H1 λv2 H2=>t3 σ H2 λv3 H3=>gC H3 P qual/\∃vs:List V,vs.length=idx.length/\(∀(i j:Nat),idx[i]?=aS j->∃v,vs[i]?=aS v/\σ[j]?=aS (aS v))/\
 ∀H' f c' oc,gC H' P qual->(∀b o,b≠P->H3 b=aS o->H' b=aS o)->H' c'=aS (qQ c' oc)->sp f (spL c' oc tb vs) [v1,v2,v3, .ref f] H' Q E
theorem MT{E:XK}{x y:Str}{c P:Addr}{k kb:Nat}{sp:Addr->Sp->Sp}{t1 t2 t3 tb:TE}
  (hm:∃fs,X.mg x=aS (.ref fs)/\Ak7 X.K (.ref fs)=true)
  (hC:∀(cg:Heap) (f:Addr) (sL:Sp),jQ X.prog X.w X.K X.mg cg (kb+1) f sL->BJ X.prog X.w X.K X.mg cg x k ps (sp f sL)) (hr:cJ k X.A) (hx:Ci (cW X.prog X.w) X E) (L:xZ X c P) (h1:PE X e1 t1) (h2:PE X e2 t2) (h3:PE X e3 t3)
  (hb:∀(f c':Addr) (cl:List (Str×Addr)) (A':An2) (vm:List Env) (s':aT) (H':Hp) (E':XK),cJ kb (A'.deeper (envX (X.env.qual++"<lambda>") scope s'.heap.objs.size f (.ref c') cl))->PE (xY X.prog X.w X.K X.mg X.base (y::N) (X.env.qual++"<lambda>") scope f (.ref c') cl A' vm s' H' E') body tb)
  (qX:Dk N idx scope.names X.N X.env.scope.names=true) (lT:scope.names.lookup y=aS .local) (fQ:X.stack=X.env::X.bw:=by rfl) (hfm:X.env.frame=aS X.env.locals:=by rfl) (wY:∀y,X.fn y=true:=by intro _;rfl)
  (hk:scope.kind= .function:=by rfl) (hco:scope.isCoroutine=false:=by rfl) (uU:scope.isGenerator=false:=by rfl) (hbd:∀(u:Value) (qual:Str) (body:br) (cl:List (Str×Addr)) (pm gk pY:Value),bindArgs (kla_fn "<lambda>" qual params body scope cl pm gk pY) ⟨[u],[]⟩=pure [(y,u)]:=by intros;rfl)
  (uT:defaultsOf params X.env=([],[]):=by rfl) (hg:Gl X x:=by rfl) (om:(x == ("__debug__":Str))=false:=by decide)
  (he:aZ [e1,e2,e3, .Lambda params body scope oJ] X.env=[(false,bh e1 X.env),(false,bh e2 X.env),(false,bh e3 X.env),(false,bh (.Lambda params body scope oJ) X.env)]:=by rfl)
  (se:aZ [e1,e2,e3, .Lambda params body scope oJ] X.env=(false,bh e1 X.env)::aZ [e2,e3, .Lambda params body scope oJ] X.env:=by rfl)
  (kr:(An9 pos (aZ [e2,e3, .Lambda params body scope oJ] X.env)).any (·.1)=false:=by rfl):
  PE X (.Call (.Name x p) [e1,e2,e3, .Lambda params body scope oJ] [] pos) (QI E P (X.env.qual++"<lambda>") idx sp t1 t2 t3 tb):=by
 intro bu s σ H Q I h;obtain⟨fs,hm,hkp⟩:=hm;have kD:=Sh qX;have vn:∀y,(scope.names.lookup y=aS .cell\/scope.names.lookup y=aS .free)->(y,Ak8)∈scope.names:=λy hy=>by
  rcases hy with hy | hy
  .exact bV rfl (Mx qX _ (F9 hy))
  .exact F9 hy
 have hN:=W3 qX;refine Af4 (DE I hg hm ?_ om);refine An4 (h₀:=X.base) I.ok.mod.pA hkp ?_ se kr;rw[he];show aW _ _ (spliced ((false,bh e1 X.env)::(false,bh e2 X.env)::(false,bh e3 X.env)::(false,bh (.Lambda params body scope oJ) X.env)::[])) _ _ s;refine Ar7 (bZ (h1 bu s σ H _ I h) λu1 s1 ⟨v1,H1,I1,r1,q1⟩=>?_);refine Ar7 (bZ (h2 bu s1 σ H1 _ I1 q1) λu2 s2 ⟨v2,H2,I2,r2,q2⟩=>?_);refine Ar7 (bZ (h3 bu s2 σ H2 _ I2 q2) λu3 s3 ⟨v3,H3,I3,r3,hT,vs,lv,hv,h⟩=>?_);refine Ar7 (mkL L kD uT I3 hT λf c' oc pm pY H' s' I' hf hf0 fz vO sV hT' old=>?_);refine Calls.spliced_nil ⟨I'.dG,?_⟩;have sub:∀y a,(AO X.env.cells scope.names []).lookup y=aS a->X.env.cells.lookup y=aS a:=Gq scope.names [] λy a z=>by cases z
 have lS:cA X.stack=X.env.locals::cA X.bw:=by rw[fQ];exact BC hfm
 have C:kO N scope (AO X.env.cells scope.names []) s'.heap H' vs:=by
  refine⟨by rw[lv,Os qX],λy z a h1 h2=>I.ok.inj y z a (sub y a h1) (sub z a h2),λy hy=>?_,λi y v h1 h2=>?_,λy a e=>⟨I'.cell y a (sub y a e),I'.dH y a (sub y a e)⟩⟩
  .exact EJ scope.names [] y (.inl ⟨vn y hy,I.ok.has y (.inl (kD _ (vn y hy) rfl))⟩)
  .obtain⟨j,hj,hXN,hk,gQ⟩:=hN i y h1;obtain⟨v',hv',hσ⟩:=hv i j hj;have ev:v'=v:=Ae1.inj (hv'.symm.trans h2);subst ev;obtain⟨m,hn,hl⟩:=id I'.loc;obtain⟨u,r,lk⟩:=hl j y v' hXN hσ (.inr (.inl gQ));obtain⟨a,ha⟩:=EJ (cells:=X.env.cells) scope.names [] y (.inl ⟨vn y (.inr hk),I.ok.has y (.inl gQ)⟩);rcases lk with ⟨kk,_⟩ | ⟨_,a',e',ce⟩
   .have kk:X.env.scope.names.lookup y=aS .local:=kk;rw[gQ] at kk;cases kk
   .have:=sub y a ha;rw[e'] at this;cases this;exact⟨a,u,hk,ha,r,ce⟩
 have nc:∀y a,(AO X.env.cells scope.names []).lookup y=aS a->a∉cA X.stack:=λy a e z=>by
  have e:=sub y a e;rw[lS] at z;rcases Aa7.mp z with z | z
  .exact I.qi y a e z
  .obtain⟨_,o,ho,_⟩:=AB I.ok.fO z;have:=I.ok.rB y a (wY y) e;exact bV (Ac6 (Ab1 ho) this) (Ag7 _)
 have nf:f∉cA X.stack:=λz=>by
  obtain⟨_,o,ho,_⟩:=AB I3.stack z;exact bV (Ac6 (Ab1 ho) fz) (Ag7 _)
 have e0:=Q1 I';have bf:(C2 s'.heap H' (cA X.stack)).get? f=_:=Eu hf hf0 nf;have subB:∀b o,X.base.get? b=aS o->(C2 s'.heap H' (cA X.stack)).get? b=aS o:=λb o e=>Eu (I'.bs b o e).1 (I'.bs b o e).2 λz=>by
  have:=(AB I'.stack z).1;rw[e] at this;cases this
 have szB:X.base.objs.size<=(C2 s'.heap H' (cA X.stack)).objs.size:=by
  rw[show (C2 s'.heap H' (cA X.stack)).objs.size=s'.heap.objs.size from hideAll_size _ _];exact I'.oj.mH
 have LV:jQ X.prog X.w X.K X.mg (C2 s'.heap H' (cA X.stack)) (kb+1) f (spL c' oc tb vs):=by
  refine⟨.inl ⟨_,_,_,_,bf⟩,λA bw s3 H3 u v Q3 hr3 e3 rv ⟨v',ev,hc3,q3⟩=>?_⟩;cases ev;obtain⟨vs',t,d,e1⟩:=sV;have je:s3.heap.CodeRec (.ref c') (X.env.qual++"<lambda>"):=⟨c',oc,vs',t,rfl,T7 (e3.bO c' _ hc3),d,e1⟩;have C3:kO N scope (AO X.env.cells scope.names []) s3.heap H3 vs:=C.on λy c o l e=>e3.bs c o (Eu e (C.cell y c l).2 (nc y c l));exact Xj (tb:=tb) (e3.bs _ _ bf).1 je hr3 (QC e3 I.ok.mod subB szB) hk hco uU (Mx qX) lT (hbd _ _ _ _ _ _ _) C3 rv (hb f c' _ A bw s3 H3 E0 (hr3.deeper _)) q3
 obtain⟨f2,fd,hm2,_,F,zy⟩:=hC _ f _ LV;rw[hm] at hm2;cases hm2;have q:=h H' f c' oc hT' old vO;have r4:Vals [v1,v2,v3, .ref f] [u1,u2,u3, .ref f]:= .cons r1 (.cons r2 (.cons r3 (.cons rfl .nil)));have hl:([u1,u2,u3, .ref f]:List Value).length=ps.length:=by rw[<-r4.length];exact F.len _ _ _ _ q
 refine Ah2 (Ao3 (F.run X.A X.stack s' H' ⟨[u1,u2,u3, .ref f],[]⟩ [u1,u2,u3, .ref f] _ Q E hr e0 (by have:=zy s' [u1,u2,u3, .ref f] I'.dG (by simpa using hl);simpa using this) r4 q) λr s3 hq=>?_);cases r with
 | error e=>exact hx bu σ H' s' e s3 I' hq
 | ok fl=>
  cases fl with
  | ret u=>exact I'.after hq
  | next=>exact Aj2 hq
  | brk=>exact Aj2 hq
  | cont=>exact Aj2 hq
theorem Ni{E:XK}{T:Addr}{sp:Addr->Sp->Sp}{t1 t2 t3 tb:TE}(h:t1 σ H λv1 H1=>t2 σ H1 λv2 H2=>t3 σ H2 λv3 H3=>gC H3 T q/\∃vs:List V,vs.length=idx.length/\(∀(i j:Nat),idx[i]?=aS j->∃v,vs[i]?=aS v/\σ[j]?=aS (aS v))/\
 ∀H' f c' oc,gC H' T q->(∀b o,b≠T->H3 b=aS o->H' b=aS o)->H' c'=aS (qQ c' oc)->sp f (spL c' oc tb vs) [v1,v2,v3, .ref f] H' Q E):QI E T q idx sp t1 t2 t3 tb σ H Q:=h
theorem cR.ym{st:Stmt}(F:cR K x qual st f fd)(hc:fd.code= .ref c)(S:bz N ps (Ah st))(len:∀vs H Q E,sp vs H Q E->vs.length=ps.length)
  (jz:∀(A:An2) (bw:List Env) (s:aT) (H:Hp) (vs:List V) (Q:VK) (E:XK),cJ k (A.deeper (envOfC qual (Ah st) s.heap.objs.size f (.ref c)))->sp vs H Q E->
   ∃t,lK (AZ (cW P w) P w K mg base N qual (Ah st) f (.ref c) A bw s H E) (CM st) t/\t { nx:=λ_ H'=>Q .bC H',rt:=Q } (start N vs) H):bQ P w K mg base (cW P w) (k+1) f fd ps sp:=by
 obtain⟨oc,od,kV,doc,pm,an,gk,ct,qk,rfl,lk,je⟩:=F.ex;obtain rfl:gk= .ref c:=hc;refine QL lk je S len λA bw s H vs Q E hr oq=>?_;exact jz A bw s H vs Q E hr oq
noncomputable def VQ:List V->Hp->VK->Prop:=λxs H Q=>∃z:Str,xs=[.str z]/\z.length<=1000/\∀l,H l=aV->Q (.ref l) (upd H l (.lst (z.cps.toList.map λc=>V.str ⟨#[c]⟩)))
theorem Tz(hc:X.calm=true:=by rfl):BG X (.type "list") VQ:=by
 intro bu s σ H xs us Q I r h;obtain⟨z,rfl,hz,q⟩:=h;obtain⟨u,rfl,t,rfl⟩:=Fh r;have vV:z.cps.size<=1000:=hz;have hs:z.cps.size<=sizeLine:=by rw[Aj9];omega
 refine call_list_str (hn:=hs) (I.ok.hd hc) z t λh' tk acc c k1 hS yo=>?_;refine⟨.ref s.heap.objs.size,_,I.laid (t':=tk) (o:= .lst (z.cps.toList.map λc=>V.str ⟨#[c]⟩)) k1 (Aa6 _) ⟨?_,acc.toList,c,?_,by simpa using hS⟩,rfl,q _ (I.bO.fresh (Aa6 _))⟩
 .rw[Aa0,Aq9];exact hs
 .refine Om (by rw[Aq9,yo.1,Aa0,Aq9]) λj u hu=>?_;obtain⟨d,t',e,rfl⟩:=yo.2 j u (by rw[<-Ai0];exact hu);exact⟨.str ⟨#[d]⟩,by rw[Ac1,Ai0,e];rfl,t',rfl⟩
section
theorem TZ{s:aT}{xs ys:Array Value}{Q:Unit->aT->Prop}
  (ho:s.heap.get? l=aS { cls:= .type "list",data:= .seq xs n }) (hq:s.heap.get? q=aS { cls:= .type "list",data:= .seq ys m }) (gh:l≠q) (hs:s.heap.IsSliceOf sl vl vu .none) (pl:IsPart vl (aS (i:Int))) (pu:IsPart vu (aS (j:Int))) (hij:i<=j) (hi:i<=xs.size)
  (hsz:xs.size+ys.size<=sizeLine)
  (h:Q () { s with heap:=s.heap.update l (AA4 λqY=>qY.extract 0 i++ys++qY.extract (min j xs.size) qY.size) }):aW (aX X.prog X.w) X.A (setItem (.ref l) (.ref sl) (.ref q)) Q X.xe s:=by
 have hl:s.heap.IsList l xs:=PySem.IsL.isList (n:=n) ho;have hlq:s.heap.IsList q ys:=PySem.IsL.isList (n:=m) hq;obtain⟨os,wm,hcs,hds⟩:=id hs;have hTs:s.TypeIs (.ref sl) "slice":=⟨os,wm,hcs⟩;have yp:Builtin.List.listSameRef (.ref l) (.ref q)=false:=beq_eq_false_iff_ne.mpr gh;have hb:At5 (aS (i:Int)) (aS (j:Int)) aV xs.size=((i:Int),((min j xs.size:Nat):Int),1):=by
  obtain⟨h1,h2,h3⟩:=GU (aS (i:Int)) (aS (j:Int)) xs.size;refine Prod.ext (h1.trans ?_) (Prod.ext (h2.trans ?_) h3)
  .simp only[HT.jN,bG (show ¬ ((i:Nat):Int)<0 by omega)];omega
  .simp only[HT.jN,bG (show ¬ ((j:Nat):Int)<0 by omega)];omega
 have aav:(max (i:Int) ((min j xs.size:Nat):Int)).toNat=min j xs.size:=by omega
 have vV:((λqY:Array Value=>qY.extract 0 i++ys++qY.extract (min j xs.size) qY.size) xs).size<=sizeLine+1:=by
  simp only[Array.size_append,Array.size_extract];omega
 unfold setItem;refine Ae8 ?_;refine Aa1 (wpAny_sequenceKey hl.typeIs (by decide) ?_);refine Aa1 (Ag2 (name:=Ai9 "__setitem__") hl.typeIs slot_list_setitem
  (As0 slot_list_setitem hl.typeIs entry_list_setitem ?_ (args_list_setitem _ _ _)))
 show aW _ _ (AD9 (.ref sl) >>= _) _ _ s;refine Aa1 ?_;unfold AD9;refine Aa1 (wpAny_specialOf hTs slice_no_index ?_);simp only[Option.isNone_none,if_true];refine Ab2 ?_;show aW _ _ (typeOf (.ref sl) >>= _) _ _ s;refine Aa1 (wpAny_typeOf hTs ?_);rw[bG (by decide)];rw[listSliceParts_eq];refine Aa1 (Aa1 (Ad8 wm hds (x:= .none) rfl (Aa1 (wpAny_listPart .none ?_))));rw[bG (show ¬ ((rawPart aV == Ay6 0)=true) from Ab3)];refine Aa1 (Ad8 wm hds (x:=vl) rfl (Aa1 (wpAny_listPart pl ?_)));refine Aa1 (Ad8 wm hds (x:=vu) rfl (Aa1 (wpAny_listPart pu (Ab2 ?_))));simp only[yp,As2,if_false];refine Aa1 (m:=AF1 (.ref q) "must assign iterable to extended slice") ?_;unfold AF1;refine Aa1 (wpAny_typeOf hlq.typeIs ?_);rw[bS (by decide)];unfold Builtin.List.listItems;refine Aa1 (Ag9 hq rfl (Ab2 ?_));refine Aa1 (Aa1 (Ag9 ho rfl (Ab2 ?_)));refine Aa1 (wpAny_of_eq ((sliceIndices_raw (aS (i:Int)) (aS (j:Int)) aV xs.size (by simp)).trans (congrArg (pure:Int×Int×Int->Sem (Int×Int×Int)) hb)) ?_);show aW _ _ (if ((1:Int) == 1)=true then _ else _) _ _ s;rw[bS (by decide)];refine Aa1 (wpAny_rule ?_);simp only[Jy hsz,As2,if_false]
 first | refine Aa1 (Ab2 ?_) | skip
 show aW _ _ (updateSeq l (λqY=>qY.extract 0 ((i:Int)).toNat++ys++qY.extract (max (i:Int) ((min j xs.size:Nat):Int)).toNat qY.size) >>= _) _ _ s;rw[aav,Ad3];refine Aa1 (wpAny_updateSeq (hz:=Ab4 (Nat.le_add_right _ _) hsz) (_hz':=vV) ho rfl ?_);refine Aa1 (wpAny_letGo ?_)
 first
  | exact Aa1 (Ab2 (Ab2 ⟨.none,rfl,Ab2 h⟩))
  | exact Ab2 ⟨.none,rfl,Ab2 h⟩
noncomputable def V0:V->Option Int->Option Int->V->Hp->(Hp->Prop)->Prop:=λo lo hi v H Q=>∃p q xs ys,∃i j:Nat,o= .ref p/\v= .ref q/\lo=aS (i:Int)/\hi=aS (j:Int)/\i<=j/\i<=xs.length/\H p=aS (.lst xs)/\H q=aS (.lst ys)/\p≠q/\xs.length+ys.length<=100000/\Q (upd H p (.lst (xs.take i++ys++xs.drop j)))
noncomputable def Rq(to:TE)(tl th:TO):TG:=λv σ H Q=>to σ H λx H1=>tl σ H1 λl H2=>th σ H2 λu H3=>V0 x l u v H3 λH4=>Q σ H4
theorem Rw{lo hi:Option br}(ho:PE X o to)(hl:PO X lo tl)(hu:PO X hi th):PG X (.Subscript o (.Slice lo hi aV p2) pos) (Rq to tl th):=by
 intro bu s σ H v u Q I r h;show aW _ _ (do
   let ov <-Ax4 [u] (bh o X.env)
   let iv <-Ax4 [u,ov] (bh (.Slice lo hi aV p2) X.env)
   standAt pos
   Ax4 [u,ov,iv] (setItem ov iv u)
   release [iv,u,ov] []) _ _ _
 refine Aa1 (Ae8 (bZ (ho bu s σ H _ I h) λov s1 ⟨x,H1,I1,r1,q1⟩=>?_));refine Aa1 (Ae8 (wpAny_Slice (bZ (hl bu s1 σ H1 _ I1 q1) λvl s2 ⟨l,H2,I2,pl,q2⟩=>bZ (hu bu s2 σ H2 _ I2 q2) λvu s3 ⟨w,H3,I3,pu,q3⟩=>?_)));rw[evalPart_none];refine Ab2 ?_;obtain⟨p,q,xs,ys,i,j,rfl,rfl,rfl,rfl,hij,hi,hp,hq,gh,hz,k⟩:=q3;cases r;cases r1;have I4:Inv X bu σ H3 { s3 with heap:=s3.heap.push { cls:= .type "slice",data:= .fields #[vl,vu, .none] } }:=I3.kept (t':=s3.toks) λb ob q=>Aa4 _ q;obtain⟨z,its,n,rv,rS,e⟩:=I4.mL hp;obtain⟨z2,cE,n2,jK,lC,e2⟩:=I4.mL hq;have sz:sizeLine=16777216:=by decide
 refine Aa1 (Ag1 (Aa1 (Ae8 (TZ e e2 gh (AH5 ..) pl pu hij (by rw[Ab6];omega) (by rw[Ab6,Ab6];omega) ?_))));refine wpAny_release ⟨σ,_,I4.qD (its':=its.take i++cE++its.drop j) hp e ?_ (((rv.take _).append jK).append (rv.drop _)) ?_,k⟩
 .rw[Ab6];refine(Qb its cE i (min j its.length)).trans ?_;congr 2;by_cases h:j<=its.length
  .rw[Av5 h]
  .rw[Az2 (by omega),List.drop_eq_nil_of_le (Aa6 _),List.drop_eq_nil_of_le (by omega)]
 .rw[Aa5,Aa5,Ac5,Ad2];omega
end
end L2
namespace L2
open PySem PySem.Spec PyProof.Rows
noncomputable def Nxt(N:St->Hp->Prop):St->Hp->Prop:=N
structure Cut(u:TS)(D:Ends)(N:St->Hp->Prop):Prop where
 go:∀σ H,u D σ H->N σ H
theorem SQ{t u:TS}(h:∀N,Cut u D N->t { D with nx:=Nxt N } σ H):Vq t u D σ H:=h (u D) ⟨λ_ _ x=>x⟩
theorem Ws{u:TS}{N:St->Hp->Prop}(k:Cut u D N)(h:u D σ H):Nxt N σ H:=k.go _ _ h
end L2
namespace bE
noncomputable def rep{α:Type}(u:List α):Nat->List α
 | 0=>[]
 | t+1=>u++rep u t
section
variable {α:Type}
theorem gD(u:List α):∀t,(rep u t).length=u.length*t
 | 0=>rfl
 | t+1=>by rw[rep,Aa5,gD u t,AB0,Nat.add_comm]
theorem OZ(u:List α)(s:Nat):∀t,rep u (t+s)=rep u t++rep u s
 | 0=>by rw[AG4];rfl
 | t+1=>by rw[Nat.succ_add,rep,rep,OZ u s t,Ah3]
theorem kU(u:List α):∀t,(Ad1 t u).flatten=rep u t
 | 0=>rfl
 | t+1=>by rw[Af9,Ap4,kU u t,rep]
noncomputable def sl(xs:List α)(i j:Nat):List α:=(xs.drop i).take (j - i)
theorem oK{xs:List α}(h:j<=xs.length):(sl xs i j).length=j - i:=by
 unfold sl;rw[Ac5,Ad2];omega
theorem Ue{xs:List α}{d:Nat}:(sl xs i j).drop d=sl xs (i+d) j:=by
 unfold sl;rw[AJ0,AC6];congr 1;omega
theorem S7{xs:List α}{d:Nat}(h:i+d<=j):(sl xs i j).take d=sl xs i (i+d):=by
 unfold sl;rw[List.take_take];congr 1;omega
theorem vo(xs:List α):sl xs 0 xs.length=xs:=by unfold sl;simp
theorem oM(xs:List α)(i:Nat):sl xs i i=[]:=by unfold sl;simp
theorem oN{xs:List α}{m:Nat}(h1:i<=m)(h2:m<=j):sl xs i m++sl xs m j=sl xs i j:=by
 have e1:=S7 (xs:=xs) (i:=i) (j:=j) (d:=m - i) (by omega);have e2:=Ue (xs:=xs) (i:=i) (j:=j) (d:=m - i);rw[show i+(m - i)=m by omega] at e1 e2;rw[<-e1, <-e2,List.take_append_drop]
theorem sr{xs:List α}(h:i<j)(hj:j<=xs.length):sl xs i j=xs[i]'(by omega)::sl xs (i+1) j:=by
 unfold sl;rw[Af7 (by omega),show j - i=(j - (i+1))+1 by omega,AD3]
variable (fU:Nat->α)(cls:α)(plain:α->Prop)
inductive jj:List α->List α->Prop
 | nil:jj [] []
 | one (x:α) {ws l:List α}:plain x->jj ws l->jj (x::ws) (x::l)
 | tM (t:Nat) {us u ws l:List α}:2<=t->t<=60->u≠[]->jj us u->jj ws l->jj (fU t::(us++cls::ws)) (rep u t++l)
variable {fU cls plain}
theorem jj.app{ws l tO l':List α}(h:jj fU cls plain ws l)(h':jj fU cls plain tO l'):jj fU cls plain (ws++tO) (l++l'):=by
 induction h with
 | nil=>exact h'
 | one x p _ ih=>exact .one x p ih
 | tM t h1 h2 hu a _ _ ih=>
  rw[Ah3,Aq8,Ah3,Aq8];exact .tM t h1 h2 hu a ih
noncomputable def wB(xs:List α)(b size t:Nat):Prop:=∀k,k<t->sl xs (b+size*k) (b+size*k+size)=sl xs b (b+size)
theorem pM{xs:List α}{b size:Nat}:∀{t:Nat},wB xs b size t->sl xs b (b+size*t)=rep (sl xs b (b+size)) t
 | 0,_=>by rw[Nat.mul_zero,Nat.add_zero,oM];rfl
 | t+1,h=>by
  rw[OZ (t:=t) (s:=1), <-pM λk hk=>h k (by omega)];have:=h t (AH1 _);rw[show rep (sl xs b (b+size)) 1=sl xs b (b+size) by simp[rep], <-this,AB0, <-Nat.add_assoc,oN (by omega) (by omega)]
structure Sm(α:Type) where
 held:List (List α)
 times:List Nat
 count:Nat
section
variable [DecidableEq α](cls:α)(fV:α->Option (Option Nat))(fits:α->Bool)(most:Nat)
noncomputable def step(s:Sm α)(w:α):Option (Sm α):=
 if w=cls then
  match s.held,s.times with
  | u::v::st,t::ts=>if u≠[]/\s.count+u.length*(t - 1)<=most then aS ⟨(v++rep u t)::st,ts,s.count+u.length*(t - 1)⟩ else aV
  | _,_=>aV
 else match fV w with
  | some (aS t)=>if s.count<=most then aS ⟨[]::s.held,t::s.times,s.count⟩ else aV
  | some aV=>aV
  | none=>match s.held with
   | h::st=>if fits w=true/\s.count+1<=most then aS ⟨(h++[w])::st,s.times,s.count+1⟩ else aV
   | []=>aV
noncomputable def run:Sm α->List α->Option (Sm α)
 | s,[]=>aS s
 | s,w::ws=>match step cls fV fits most s w with
  | some s'=>run s' ws
  | none=>aV
end
theorem lV[DecidableEq α]{cls:α}{fV:α->Option (Option Nat)}{fits:α->Bool}{most:Nat}:∀(ws tO:List α) (s:Sm α),run cls fV fits most s (ws++tO)=match run cls fV fits most s ws with | some s'=>run cls fV fits most s' tO | none=>aV
 | [],tO,s=>rfl
 | w::ws,tO,s=>by
  have e:∀vs,run cls fV fits most s (w::vs)=match step cls fV fits most s w with | some s'=>run cls fV fits most s' vs | none=>none:=λ_=>rfl
  rw[Aq8,e,e];cases step cls fV fits most s w with
  | none=>rfl
  | some s'=>exact lV ws tO s'
end
end bE
open L2
local macro_rules | `(tactic| walk_at "t") => `(tactic| first | (with_reducible first | refine SQ λ_ _ =>?_ | refine Ws (by assumption) ?_ | refine VO ?_ | refine Ox ?_ | refine ZI ?_ | refine XS ?_ | refine X1 ?_ | refine VJ ?_ | refine Xk ?_ | refine VZ ?_ | refine VF ?_ | refine V1 ?_ | refine Vv ?_ | refine WH ?_ | refine VR ?_ | refine Uz ?_ | refine WN ?_ | refine W6 ?_ | refine WQ ?_ | refine VL ?_ | refine Uo ?_ | refine SV ?_ | refine Xi ?_ | refine Wv ?_ | refine SX ?_ | refine VX ?_ | refine Tx ?_ | refine WJ ?_ | refine Vt ?_ | refine WM ?_ | refine T2 ?_ | refine Xr ?_ | refine UC ?_ | refine P6 ?_ | refine Vr ?_ | refine Mq ?_ | refine Qo ?_ | refine OT ?_ | refine T1 ?_ | refine Tt ?_ | refine Su ?_ | refine SR ?_ | refine Uk ?_ | refine Vi ?_ | refine WW ?_ | refine XG ?_ | refine W5 ?_ | refine Tc ?_ | refine Vh ?_ | refine Xz ?_ | refine XT ?_ | refine Xy ?_ | refine W9 ?_ | refine XR ?_ | refine WP ?_ | refine Xv ?_ | refine XM ?_ | refine XH ?_ | refine RI ?_ | refine Vx ?_ | refine Vn ?_ | refine S6 ?_ | refine Tu ?_) | ((with_reducible apply Wu); exact rfl) | (with_reducible refine Vm (by simp only[List.length_cons, List.length_nil]; decide) ?_))
local macro_rules | `(tactic| walk_at "s") => `(tactic| first | walk_at "t" | (with_reducible refine Wa ?_))
local macro_rules | `(tactic| walk_at "v") => `(tactic| repeat walk_at "t")
local macro_rules | `(tactic| walk_at "w") => `(tactic| repeat walk_at "s")
local macro_rules | `(tactic| wrow_has $H $n) => do let t := ((n.getId.toString.drop 1).toString); let i := λ(a : String) => Lean.mkIdent (Lean.Name.mkSimple (a ++ t)); `(tactic| (generalize e : upd $H $(i "p") _ = $(i "H"); have $(i "s"):ident : Same $H $(i "H") := (by rw[<-e]; exact Al $(i "n")); have $(i "g"):ident := (congrFun e $(i "p")).symm.trans upd_same; clear e))
local macro_rules | `(tactic| row_lines $H $n) => do let t := ((n.getId.toString.drop 1).toString); let i := λ(a : String) => Lean.mkIdent (Lean.Name.mkSimple (a ++ t)); `(tactic| (intro $(i "p"):ident $(i "n"):ident; wrow_has $H $n))
local macro_rules | `(tactic| walk_at "x") => `(tactic| repeat first | walk_at "s" | (with_reducible refine AE (by decide) ?_))
namespace K06
open PySem L2 PySem.Spec PyProof.Rows
seal L2.PE L2.PT L2.PW L2.PA L2.PS L2.lK L2.PI L2.PG L2.pT L2.vP
section
local macro_rules | `(tactic| w_fin)=>`(tactic| walk_at "w")
local macro_rules | `(tactic| exists $t,*)=>if t.getElems.size=1 then `(tactic| (walk_at "w";refine $(t.getElems[0]!))) else `(tactic| (walk_at "w";refine⟨$t,*, ?_⟩))
local macro_rules | `(tactic| w_left)=>`(tactic| exact⟨rfl,rfl,rfl,by decide +kernel,rfl,by decide +kernel,by decide +kernel⟩)
local macro_rules | `(tactic| tbr_iter $t)=>do let i:=fun (a:String)=>Lean.mkIdent (Lean.Name.mkSimple a);`(tactic| refine $t (fun $(i "vs") $(i "H") $(i "Q") $(i "E") $(i "h")=>by(repeat first | (obtain⟨e,_⟩:=$(i "h"):ident;subst e;rfl) | obtain⟨_,$(i "h"):ident⟩:=$(i "h"):ident)) (fun c A o $(i "s") $(i "H") $(i "vs") $(i "Q") $(i "E") $(i "hr") $(i "h")=>?_))
section
variable {P:Program}{w:bg}
structure Cs where
 bT:Addr
 gq:Addr
 bM:Addr
 bL:Addr
 jC:Addr
 iu:Addr
 iw:Addr
 cD:Addr
 iy:Addr
 fG:Addr
structure Txt(K:aU)(mg:Str->Option Value)(c:Cs):Prop where
 own:Own mg ["isinstance","int","bool","str","list","tuple","len","all","range","sum","zip","enumerate","ValueError"]
 su:mg "Draft"=aS (.ref c.bT)
 cH:Kind K c.bT
 yq:Ai6 K (.ref c.bT) (.ref c.bT)=aS true
 gR:cU K c.bT "shafts"
 fR:cU K c.bT "treadles"
 fH:cU K c.bT "threading"
 iX:cU K c.bT "ties"
 fS:cU K c.bT "treading"
 iY:cU K c.bT "warp"
 iZ:cU K c.bT "weft"
 iz:mg "LoomError"=aS (.ref c.gq)
 kW:mg "BadRow"=aS (.ref c.bM)
 gr:mg "BadWord"=aS (.ref c.bL)
 qb:mg "TooMany"=aS (.ref c.jC)
 oO:mg "NotPlain"=aS (.ref c.iu)
 oQ:mg "NotGrown"=aS (.ref c.iw)
 oR:mg "BadDraft"=aS (.ref c.cD)
 tP:HT.ExcKind K c.cD
 tQ:PySem.W.excIn K c.cD [.type "ValueError", .type "Exception", .type "BaseException", .type "object"] "ValueError.__new__"=true
 mC:As3 K (.ref c.cD) (.ref c.gq)=aS true
 oS:Ai6 K (.ref c.cD) (.ref c.bM)=aS false
 nD:Ai6 K (.ref c.cD) (.ref c.bL)=aS false
 nG:Ai6 K (.ref c.cD) (.ref c.jC)=aS false
 mZ:Ai6 K (.ref c.cD) (.ref c.iu)=aS false
 m5:Ai6 K (.ref c.cD) (.ref c.iw)=aS false
 m7:Ai6 K (.ref c.cD) (.ref c.cD)=aS true
 m8:Ai6 K (.ref c.cD) (.ref c.iy)=aS false
 lW:Ai6 K (.ref c.cD) (.ref c.fG)=aS false
 lX:Ai6 K (.ref c.cD) (.type "ValueError")=aS true
 oU:mg "BadCloth"=aS (.ref c.iy)
 lY:mg "OutOfPlace"=aS (.ref c.fG)
 jT:kP K c.bM
 lF:sf K c.bM
 iS:As3 K (.ref c.bM) (.ref c.gq)=aS true
 jU:Ai6 K (.ref c.bM) (.ref c.bM)=aS true
 jD:Ai6 K (.ref c.bM) (.ref c.bL)=aS false
 jE:Ai6 K (.ref c.bM) (.ref c.jC)=aS false
 jk:Ai6 K (.ref c.bM) (.ref c.iu)=aS false
 jm:Ai6 K (.ref c.bM) (.ref c.iw)=aS false
 jn:Ai6 K (.ref c.bM) (.ref c.cD)=aS false
 jo:Ai6 K (.ref c.bM) (.ref c.iy)=aS false
 iA:Ai6 K (.ref c.bM) (.ref c.fG)=aS false
 iB:Ai6 K (.ref c.bM) (.type "ValueError")=aS true
 i0:Aj4 K (.ref c.bM) "row"=aS aV
 iC:Aj4 K (.ref c.bM) "word"=aS aV
 qc:∃fi,HT.jB K c.bM fi=true
 oV:kP K c.bL
 oW:sf K c.bL
 jq:As3 K (.ref c.bL) (.ref c.bL)=aS true
 ni:As3 K (.ref c.bL) (.ref c.gq)=aS true
 pN:Ai6 K (.ref c.bL) (.ref c.bM)=aS false
 oX:Ai6 K (.ref c.bL) (.ref c.bL)=aS true
 oY:Ai6 K (.ref c.bL) (.ref c.jC)=aS false
 nH:Ai6 K (.ref c.bL) (.ref c.iu)=aS false
 nI:Ai6 K (.ref c.bL) (.ref c.iw)=aS false
 nJ:Ai6 K (.ref c.bL) (.ref c.cD)=aS false
 nK:Ai6 K (.ref c.bL) (.ref c.iy)=aS false
 mD:Ai6 K (.ref c.bL) (.ref c.fG)=aS false
 mE:Ai6 K (.ref c.bL) (.type "ValueError")=aS true
 gu:Aj4 K (.ref c.bL) "place"=aS aV
 oZ:∃fi,HT.jB K c.bL fi=true
 jF:tL K c.gq
 i6:∃t,mg "MOST_SHAFTS"=aS (.int 16 t)
 gT:∃t,mg "MOST_TREADLES"=aS (.int 16 t)
 j3:∃t,mg "MOST_ENDS"=aS (.int 60 t)
 jG:∃t,mg "MOST_PICKS"=aS (.int 60 t)
 qd:∃t,mg "FIGURES"=aS (.str "0123456789" t)
 kX:∃t,mg "MOST_FIGURES"=aS (.int 3 t)
 qe:∃t,mg "COLOURS"=aS (.str "abcdefghijklmnopqrstuvwxyz" t)
 lz:∃t,mg "LEAST_TIMES"=aS (.int 2 t)
 lZ:∃t,mg "MOST_TIMES"=aS (.int 60 t)
 jV:∃t,mg "OPENING"=aS (.str "(" t)
 lG:∃t,mg "CLOSING"=aS (.str ")" t)
 o6:∃t,mg "NONE"=aS (.str "-" t)
 o7:∃t,mg "TOGETHER"=aS (.str "+" t)
theorem Txt.ow(T:Txt K mg c)(h:x∈(["isinstance","int","bool","str","list","tuple","len","all","range","sum","zip","enumerate","ValueError"]:List Str):=by decide):mg x=none:=T.own x h
noncomputable def LQ(K:aU)(ts:List Addr):Sp:=λvs H Q _=>∃(a:Addr) (ns:List Int),vs=[.ref a]/\bx K H a (ns.map V.int)/\ns.length<=63/\(∀T∈ts,H T=aS (.ko #[]))/\ts.Nodup/\∀H',Q (.bl true) H'
end
section
variable {P:Program}{w:bg}{c:Cs}{iD iE:Addr}
noncomputable def CK:Nat->Sp
 | 0=>λ_ _ _ _=>False
 | n+1=>λvs H Q _=>∃v u d,vs=[v,u]/\Rp H FT n v d/\Rp H FT n u d/\∀H',Same H H'->Q (.bl true) H'
noncomputable abbrev Du:Stmt:=top 58
theorem LO:bz ["_law_found","_law_due_here"] ["_law_found","_law_due_here"] (Ah Du):=by w_left
theorem JS(F:cR K "_law_same" "_law_same" Du f fd)(T:Txt K mg c)(iF:bF P w K mg base "_law_same" (n+1) ["_law_found","_law_due_here"] (CK n)):bQ P w K mg base c6 (n+2) f fd ["_law_found","_law_due_here"] (CK (n+1)):=by
 tbr_iter (F.ok LO)
 .obtain⟨v,u,d,rfl,rv,ru,k⟩:=h;refine⟨_,(Ac (Aw (A4 (Ai (T3 (K:=K)) rfl T.ow Aj1 (Aa (pv 1) (Aa (AY (Aa (Ca rfl T.ow AR) (Aa (Ca rfl T.ow A6) Ab))) Ab)))) (Ac (Aw (PW.pt (Dm (Ak JH (Ai (BP (K:=K)) rfl T.ow Aj1 (Aa (pv 0) (Aa (Ca rfl T.ow AR) Ab))) (Ai (BP (K:=K)) rfl T.ow Aj1 (Aa (pv 1) (Aa (Ca rfl T.ow AR) Ab))) (Ap _)) (Cg (Ak JH (Ai (BP (K:=K)) rfl T.ow Aj1 (Aa (pv 0) (Aa (Ca rfl T.ow A6) Ab))) (Ai (BP (K:=K)) rfl T.ow Aj1 (Aa (pv 1) (Aa (Ca rfl T.ow A6) Ab))) (Ap _))))) (Ae (Ao FC)) Aq)
   (Ae (Ao (ES (Bw Bb (Ai (AF (K:=K)) rfl T.ow Aj3 (Aa (pv 0) Ab)) (Ai (AF (K:=K)) rfl T.ow Aj3 (Aa (pv 1) Ab)) (Ap _)) (Fj (Ai (MA (K:=K)) rfl T.ow Ec (Aa (Je (K:=K) (X0 (K:=K) rfl T.ow (Aa (pv 0) (Aa (pv 1) Ab))) (λ_ _ _ _=>AC) (λ_ _ _ _=>(Ag iF hr (Aa (pv 0) (Aa (pv 1) Ab))))) Ab))))))) Aq)
   (Ae (Ao (ES (Bw Bb (Ai (BP (K:=K)) rfl T.ow Aj1 (Aa (pv 0) (Aa (Ca rfl T.ow boot_bool) Ab))) (Ai (BP (K:=K)) rfl T.ow Aj1 (Aa (pv 1) (Aa (Ca rfl T.ow boot_bool) Ab))) (Ap _)) (Fj (Bw Bb (pv 0) (pv 1) (Ap _))))))),?_⟩
  w_fin;intro p hp;w_fin;have sp:=Al (o:=HO.tup [V.ty "list",V.ty "tuple"]) hp;refine Sj (ns:=["list","tuple"]) upd_same (ru.same sp).ty (WV d) ?_;have rv:=rv.same sp;have ru:=ru.same sp;generalize upd H p _=H1 at rv ru sp ⊢;exists Nn (λhc=>?_) (λhc=>?_)
  .exists Bi rv.ty (L6 d) ?_;exists Bi ru.ty (L6 d) ?_;exists FX (λq=>bV rfl q) (λ_=>?_);exists Bi rv.ty (JA d) ?_;exists Bi ru.ty (JA d) ?_;exists FX (λq=>bV rfl q) (λ_=>?_);w_fin;obtain⟨m,a,xs,hm,rfl,sa,la,ba,ea⟩:=rv.seq (K:=K) hc;obtain⟨m',b,zs,uZ,rfl,sb,lb,bb,eb⟩:=ru.seq (K:=K) hc;subst hm;cases uZ;refine Pa sa ?_;exists Pa sb ?_;exists Az (λ_=>?_) (λq=>bV (by rw[la,lb]) q);exists ⟨Cy d,Cy d,a,b,rfl,⟨_,sa⟩,⟨_,sb⟩,λD hD=>?_⟩;refine Tj (xs:=xs) (zs:=zs) (by omega) (λi ys H'=>ys=(Ad1 i true).map V.bl/\Same H1 H'/\H' D=aS (.lst ys)) ⟨rfl,AG (Same.refl _) hD,upd_same⟩ (λi ys H' _ ⟨_,s,_⟩=>⟨sa.same s,sb.same s⟩) ?_ ?_
   .rintro i x z ys H' q hx hz ⟨rfl,s1,hl⟩ hq;refine⟨((Kp.refl _).set rfl).set rfl,Vw ?_⟩;w_fin;have hi:i<(Ht d).length:=by
     have:=(Ab8.mp hx).1;omega
    have hd:(Ht d)[i]?=aS (Ht d)[i]:=Aa3 hi;have s2:Same H1 (upd H' q (HO.tup [x,z])):=s1.trans (Al hq);refine⟨x,z,(Ht d)[i],rfl,(ea i x _ hx hd).same s2,(eb i z _ hz hd).same s2,λgx s3=>?_⟩;have rS:gx D=aS (.lst ((Ad1 i true).map V.bl)):=s3 _ _ (Al hq _ _ hl);refine⟨rS,?_,?_,?_,upd_same⟩
    .rw[Aa0,Ah8];exact Ac6 hi (Ab4 (by omega) (show 100000<=sizeLine by decide))
    .rw[List.replicate_succ',Ac2];rfl
    .exact AG (s2.trans s3) hD
   .rintro ys H' ⟨rfl,s1,hl⟩;exists JC (bx.of hl) ?_;have e:(Ad1 xs.length true).all id=true:=by simp
    rw[e];exact k H' (sp.trans s1)
  .exists Bi rv.ty (O4 d) ?_;exists Bi ru.ty (O4 d) ?_;exists Az (λ_=>?_) (λq=>bV rfl q);w_fin;have e:=TJ rv ru hc;subst e;refine⟨PD rv hc,?_⟩;rw[iT rfl];exact k H1 sp
theorem GX{f:Addr}{fd:Am7}(D:bJ K mg "_law_same" Du ["_law_found","_law_due_here"] f fd)(T:Txt K mg c):∀n,bQ P w K mg base c6 (n+1) f fd ["_law_found","_law_due_here"] (CK n)
 | 0=>⟨λ_ _ _ _ h=>h.elim,λ_ _ _ _ _ _ _ _ _ _ _ _ _ h=>h.elim⟩
 | n+1=>JS D.fn T (D.call (GX D T n))
noncomputable def HK(K:aU):Sp:=λvs H Q _=>∃x,vs=[x]/\Ty K H x/\Q (.bl (Sa x)) H
noncomputable abbrev Gh:Stmt:=top 18
theorem Nw:bz ["thing"] ["thing"] (Ah Gh):=by w_left
theorem Dy(F:cR K "is_whole" "is_whole" Gh f fd)(T:Txt K mg c):bQ P w K mg base c6 1 f fd ["thing"] (HK K):=by
 tbr_iter (F.ok Nw)
 .obtain⟨x,rfl,⟨n,ty⟩,k⟩:=h;refine⟨_,(Ae (Ao (ES (Ai (BP (K:=K)) rfl T.ow Aj1 (Aa (pv 0) (Aa (Ca rfl T.ow Ar3) Ab))) (Fj (Rc (Ai (BP (K:=K)) rfl T.ow Aj1 (Aa (pv 0) (Aa (Ca rfl T.ow boot_bool) Ab)))))))),?_⟩;exists Bi ty (To ty) ?_;exists WF (λhc=>?_) (λhc=>?_)
  .exists Bi ty (RG ty) ?_;w_fin;exact HN (by cases x <;> first | rfl | exact bV hc Ab3) k
  .exact HN (by cases x <;> first | rfl | exact bV hc.symm Ab3) k
noncomputable def Bg(K:aU):Sp:=λvs H Q _=>∃x a b,vs=[x, .int a, .int b]/\Ty K H x/\Q (.bl (Be x a b)) H
noncomputable abbrev Gi:Stmt:=top 19
theorem ML:bz ["thing","least","most"] ["thing","least","most"] (Ah Gi):=by w_left
theorem Dw(F:cR K "is_among" "is_among" Gi f fd)(T:Txt K mg c)(cQ:bF P w K mg base "is_whole" 1 ["thing"] (HK K)):bQ P w K mg base c6 2 f fd ["thing","least","most"] (Bg K):=by
 tbr_iter (F.ok ML)
 .obtain⟨x,a,b,rfl,ty,k⟩:=h;refine⟨_,(Ae (Ao (ES (Ag cQ hr (Aa (pv 0) Ab)) (Fj (Nm IK IK (pv 1) (pv 0) (pv 2)))))),?_⟩;exists x,rfl,ty;exists WF (λhc=>?_) (λhc=>?_)
  .cases x with
   | int i=>
    exists WF (λh1=>?_) (λh1=>?_)
    .w_fin;exact HN (by show _=(decide (a<=i)&&decide (i<=b));rw[h1,Ar5]) k
    .w_fin;exact HN (by show _=(decide (a<=i)&&decide (i<=b));rw[h1,Af6]) k
   | _=>exact bV hc Ab3
  .exact HN (by cases x <;> first | rfl | exact bV hc.symm Ab3) k
theorem Cm{st:Nat->L2.St}{G:Nat->Str}(S:fD J g σ0 H n st)(hD:H D=aV)(hn:n<=100000)
  (he:∀i H' (R:VK),i<n->Same H H'->(∀H3,Same H' H3->R (.str (G i)) H3)->te (st i) H' R)
  (hd:∀H',Same H H'->H' D=aS (.lst (((Ab7 n).map G).map V.str))->Q (.ref D) H'):DX J σ0 g MQ te Q H D:=by
 refine A3 (m:=0) (G:=λi=> .str (G i)) S hD hn (λi H' R hi s k=>he i H' R hi s λH3 s3=>k H3 _ s3 (.str _)) λH' ys s hl r=>?_;rw[NT] at r;obtain⟨b,eb,hb,fb,_⟩:=Mw r;cases eb;exact hd H' s hb
noncomputable def AI(z:Str):V:=match MN.numOf z.cps.toList with
 | some n=>V.int n
 | none=>V.bC
theorem all_map{α:Type}(p:α->Bool)(l:List α):(l.map p).all id=l.all p:=by simp[List.all_map]
theorem WA{l:List Nat}{p:Nat->Bool}:((Ab7 l.length).map λi=>p (l.getD i 0))=l.map p:=by
 refine Af8 (by simp) λi g1 g2=>?_;rw[Au0,Au0,AE3,Aa2,Aa3 (by simpa using g2)];rfl
theorem T8(z:Str):Txt.startswith z (Ai9 "0")=(z.cps.toList.head? == aS 48):=by
 have e:(Ai9 "0")=⟨#[48]⟩:=by decide +kernel
 rw[e];unfold Txt.startswith
 rw[MS.subAt_one];have hl:z.cps.toList.length=z.length:=by simp[Am3]
 have h0:z.cps.toList[0]?=z.cps.toList.head?:=by rw[List.head?_eq_getElem?]
 rw[h0,Ad5,Ab5,gi,gi,beq_iff_eq];constructor
 .exact λh=>h.2
 .intro h;refine⟨?_,h⟩;show 0+1<=z.length;have:z.cps.toList≠[]:=by intro q;rw[q] at h;cases h
  have:=Ae9.mpr this;omega
theorem FJ(h:MN.numOf z.cps.toList=aV):AI z= .bC:=by unfold AI;rw[h]
theorem CT(h:MN.numOf z.cps.toList=aS n):AI z= .int n:=by unfold AI;rw[h]
noncomputable def BD:Sp:=λvs H Q _=>∃z:Str,vs=[.str z]/\z.length<=100/\∀H',Same H H'->Q (AI z) H'
noncomputable abbrev Fz:Stmt:=top 21
theorem LM:bz ["word"] ["word"] (Ah Fz):=by w_left
theorem CJ(F:cR K "number_of" "number_of" Fz f fd)(T:Txt K mg c)(bB:bF P w K mg base "is_among" 2 ["thing","least","most"] (Bg K)):bQ P w K mg base c6 3 f fd ["word"] BD:=by
 tbr_iter (F.ok LM)
 .obtain⟨z,rfl,hz,k⟩:=h;have sy:z.cps.toList.length=z.length:=by simp[Am3]
  refine⟨_,(Ac (Aw (PW.pt (Dm (BI (A4 (Ai (BP (K:=K)) rfl T.ow Aj1 (Aa (pv 0) (Aa (Ca rfl T.ow As6) Ab))))) (Cg (BI (A4 (Ag bB hr (Aa (Ai (AF (K:=K)) rfl T.ow Aj3 (Aa (pv 0) Ab)) (Aa Ad (Aa (Fd T.kX) Ab))))))))) (Ae (Ao AV)) Aq)
   (Ac (Aw (BI (A4 (Ai (MA (K:=K)) rfl T.ow Ec (Aa (AD (N8 (pv 0)) (λ_ _ _ _=>AC) (λ_ _ _ _=>(Bw KB (pv 0) (Fc T.qd) (by with_unfolding_all rfl)))) Ab)))) (Ae (Ao AV)) Aq)
   (Ac (Aw (PW.pt (Fl (Ak CI (Ai (AF (K:=K)) rfl T.ow Aj3 (Aa (pv 0) Ab)) Ad (Ap _)) (En (A4 (Bl (K:=K) Aj5 PySem.F.slot_str_startswith PySem.F.type_str_startswith JR (pv 0) (Aa Af Ab)))))) (Ae (Ao AV)) Aq)
   (Ae (Ao (Au AX rfl T.ow Ar3 (Aa (pv 0) Ab))))))),?_⟩
  have yes:∀H',Same H H'->MN.numOf z.cps.toList=aV->Q .bC H':=λH' qZ e=>FJ e▸k H' qZ;exists Bi (.str _) (kb (b:=true) (by decide +kernel)) ?_;exists EB (Ab4 hz (by decide)) ?_;exists _,_,_,rfl,⟨"int", .int _⟩;have eA:Be (.int (z.length:Nat)) 1 3=(decide ((1:Int)<=(z.length:Nat))&&decide (((z.length:Nat):Int)<=3)):=rfl;rw[eA];exists Nn (λh1=>?_) (λh1=>?_)
  .exists yes H (Same.refl H) ?_;unfold MN.numOf;rw[bG];intro q;simp only[Ab5,gi] at q;have q1:=q.1.1;rw[sy] at q1;rw[iT (by omega:(1:Int)<=(z.length:Nat)),iT (by omega:((z.length:Nat):Int)<=3)] at h1;cases h1
  have h2:1<=z.length/\z.length<=3:=by
   simp only[Bool.not_eq_false',Ab5,gi] at h1;omega
  exists ⟨z,rfl,λD hD=>?_⟩;refine GK (G:=λi=>MN.ek (z.cps.toList.getD i 0)) (Ur rfl) hD (by show z.length<=100000;omega) ?_ ?_
  .intro i H' R hi s kk;exists _,_,rfl,rfl;rw[MN.qJ,MN.pF];exact kk H' (Same.refl _)
  intro H1 s1 jH;exists JC (bx.of jH) ?_;have aaw:((Ab7 z.cps.size).map λi=>MN.ek (z.cps.toList.getD i 0)).all id=z.cps.toList.all MN.ek:=by
   rw[show z.cps.size=z.cps.toList.length by simp,WA,all_map]
  rw[aaw];exists Nn (λh3=>?_) (λh3=>?_)
  .exists yes H1 s1 ?_;unfold MN.numOf;rw[bG];intro q;simp only[Ab5] at q;rw[q.1.2] at h3;cases h3
  have h4:z.cps.toList.all MN.ek=true:=by simpa using h3
  exists EB (Ab4 hz (by decide)) ?_;w_fin;have fin:(decide (1<z.cps.toList.length)&&(z.cps.toList.head? == aS 48))=false->Aq2 z=aS ((Am0 z.cps.toList:Nat):Int)/\Q (.int ((Am0 z.cps.toList:Nat):Int)) H1:=λq=>by
   refine⟨intText_digits ?_ ?_ (by omega),?_⟩
   .intro c hc;have:=(Ae0.mp h4) c hc;unfold MN.ek at this;rw[Ab5,gi,gi] at this;exact this
   .intro q;rw[q] at sy;simp at sy;omega
   .have e:MN.numOf z.cps.toList=aS (Am0 z.cps.toList):=by
     unfold MN.numOf;rw[bS];rw[q,h4,iT (by omega:1<=z.cps.toList.length),iT (by omega:z.cps.toList.length<=3)];rfl
    exact CT e▸k H1 s1
  refine Az (λh5=>?_) (λh5=>?_)
  .exists ⟨rfl,?_⟩;exists _,_,rfl,rfl;rw[T8];exists Nn (λh6=>?_) (λh6=>?_)
   .exists yes H1 s1 ?_;unfold MN.numOf;rw[bG];intro q;simp only[Ab5] at q;have q2:=q.2;rw[h6,iT (by omega:1<z.cps.toList.length)] at q2;cases q2
   .obtain⟨g1,g2⟩:=fin (by rw[h6,Ag8]);w_fin;exact⟨z,_,rfl,g1,by omega,g2⟩
  .obtain⟨g1,g2⟩:=fin (by rw[lI (by omega),Af6]);w_fin;exact⟨z,_,rfl,g1,by omega,g2⟩
noncomputable abbrev nM:Str:="("
noncomputable abbrev dg:Str:=")"
noncomputable def C7(z:Str):V:=if (Al4 z nM&&Be (AI (Az1 z aV (aS (-1)))) 2 60)=true then AI (Az1 z aV (aS (-1))) else .bC
noncomputable def Fs:Sp:=λvs H Q _=>∃z:Str,vs=[.str z]/\z.length<=100/\∀H',Same H H'->Q (C7 z) H'
theorem IF(z:Str):Ty K H (AI z):=by
 unfold AI;split
 .exact⟨_, .int _⟩
 .exact⟨_, .bC⟩
noncomputable abbrev Gb:Stmt:=top 37
theorem j4:bz ["word","times"] ["word"] (Ah Gb):=by w_left
theorem DC(F:cR K "times_of" "times_of" Gb f fd)(T:Txt K mg c)(bH:bF P w K mg base "number_of" 3 ["word"] BD)(bB:bF P w K mg base "is_among" 2 ["thing","least","most"] (Bg K)):bQ P w K mg base c6 4 f fd ["word"] Fs:=by
 tbr_iter (F.ok j4)
 .obtain⟨z,rfl,hz,k⟩:=h;refine⟨_,(Ac (Am 1 j4.nd (Ag bH hr (Aa (AM Ru (pv 0) A5 (AJ (OE LE Ad))) Ab)))
   (Ac (Aw (PW.pt (Fl (A4 (Bl (K:=K) Aj5 Aw2 Aw3 Fi (pv 0) (Aa (Fc T.jV) Ab))) (En (A4 (Ag bB hr.mo (Aa (pv 1) (Aa (Fd T.lz) (Aa (Fd T.lZ) Ab)))))))) (Ae (Ao (pv 1))) Aq)
   (Ae (Ao AV)))),?_⟩
  exists Sl (Ab4 hz (by decide)) ?_;exists ⟨_,rfl,Ab4 (AA8 z _ _) hz,λH1 s1=>?_⟩;exists ⟨rfl,?_⟩;exists _,_,rfl,rfl;exists Nn (λh1=>?_) (λh1=>?_)
  .exists _,_,_,rfl,IF _;exists Nn (λh2=>?_) (λh2=>?_)
   .have e:C7 z=AI (Az1 z aV (aS (-1))):=bS (by rw[show Al4 z nM=true from h1,h2];rfl);w_fin;exact e▸k H1 s1
   .have e:C7 z= .bC:=bG (by rw[h2,Ag8];decide);w_fin;exact e▸k H1 s1
  .have e:C7 z= .bC:=bG (by rw[show Al4 z nM=false from h1,Af6];decide);w_fin;exact e▸k H1 s1
noncomputable def fV(z:Str):Option (Option Nat):=if Al4 z nM=true then aS (match C7 z with | .int t=>aS t.toNat | _=>aV) else aV
theorem Jb:mK (xs++[y]) (-1)=aS y:=by
 unfold mK rV;rw[Aa5,Ah9];simp only[show ¬ ((0:Int)<= -1) by decide,if_false];rw[bS (by omega)];simp only[AF4];rw[show ((-1:Int)+((xs.length+1:Nat):Int)).toNat=xs.length by omega];simp
noncomputable def EO(z:Str)(n m:Nat)(fit:Bool):Bool:=if z=dg then decide (0<n)&&decide (0<m) else if Al4 z nM=true then !decide (C7 z= .bC) else fit
noncomputable def gy(H:Hp):List Addr->List (List Str)->Prop
 | [],[]=>True
 | a::as,u::us=>H a=aS (.lst (u.map V.str))/\gy H as us
 | _,_=>False
theorem gy.len:∀{as:List Addr} {us:List (List Str)},gy H as us->as.length=us.length
 | [],[],_=>rfl
 | _::_,_::_,h=>by rw[Aa9,Aa9,gy.len h.2]
theorem gy.on:∀{as:List Addr} {us:List (List Str)},gy H as us->(∀a∈as,∀o,H a=aS o->H' a=aS o)->gy H' as us
 | [],[],_,_=>trivial
 | a::_,_::_,h,k=>⟨k a Ab0 _ h.1,gy.on h.2 λb hb=>k b (Aa8 _ hb)⟩
structure vp(H:Hp)(h t:Addr)(as:List Addr)(s:bE.Sm Str):Prop where
 hh:H h=aS (.lst (as.reverse.map V.ref))
 ht:H t=aS (.lst (s.times.reverse.map nV))
 hs:gy H as s.held
 nd:as.Nodup
 nh:h∉as
 nt:t∉as
 ne:h≠t
 tm:∀n∈s.times,2<=n/\n<=60
 sm:(s.held.map Ah4).sum=s.count
 dp:s.held.length=s.times.length+1
 up:s.held.length<=1000
noncomputable def Mr:Sp:=λvs H Q _=>∃(z:Str) (h t:Addr) (as:List Addr) (s s':bE.Sm Str) (fits:Str->Bool) (mx:Nat),vs=[.str z, .ref h, .ref t]/\z.length<=100/\vp H h t as s/\s.held.length<=900/\s.count<=60/\mx<=100000/\bE.step dg fV fits mx s z=aS s'/\
 ∀H' qf,(∀b o,b≠h->b≠t->b∉as->H b=aS o->H' b=aS o)->(∀a∈qf,a∈as\/H a=aV)->vp H' h t qf s'->Q (.int ((s'.count:Int) - (s.count:Int))) H'
theorem ID{xs:List V}(h:xs[xs.length - 1]?=aS y):mK xs (-1)=aS y:=by
 have hp:0<xs.length:=by
  rcases Ai2 xs.length with z | z
  .rw[Ah1.mp z] at h;cases h
  .exact z
 unfold mK rV;simp only[show ¬ ((0:Int)<= -1) by decide,if_false];rw[bS (by omega)];simp only[AF4];rw[show ((-1:Int)+((xs.length:Nat):Int)).toNat=xs.length - 1 by omega];exact h
theorem EI(z:Str):C7 z= .bC\/∃n:Nat,C7 z=nV n/\2<=n/\n<=60:=by
 unfold C7;split
 .rename_i h
  rw[Ab5] at h;have h:=h.2;unfold AI at h ⊢;split
  .rename_i n e
   rw[e] at h;refine .inr ⟨n,rfl,?_⟩;have h:(decide ((2:Int)<=(n:Nat))&&decide (((n:Nat):Int)<=60))=true:=h;rw[Ab5,gi,gi] at h;omega
  .exact .inl rfl
 .exact .inl rfl
theorem Mg{u:List Str}:(Ad1 n (u.map V.str)).flatten=(bE.rep u n).map V.str:=by
 rw[<-bE.kU,List.map_flatten,Ax0]
noncomputable abbrev Lu:Stmt:=top 39
theorem kY:bz ["word","held","times","inner","many"] ["word","held","times"] (Ah Lu):=by w_left
theorem IS(F:cR K "taken" "taken" Lu f fd)(T:Txt K mg c)(cz:bF P w K mg base "times_of" 4 ["word"] Fs):bQ P w K mg base c6 5 f fd ["word","held","times"] Mr:=by
 tbr_iter (F.ok kY)
 .obtain⟨z,h,t,as,s0,s',fits,mx,rfl,hz,K0,yr,hct,hmx,fQ,k⟩:=h;have hu:=hr.cC;refine⟨_,(Ac (Aw (Ak Bb (pv 0) (Fc T.lG) (Ap _)) (Ac (Am 3 kY.nd (Qu (K:=K) Aj0 AD0 PySem.F.type_list_pop Qz (pv 1)))
   (Ac (Am 4 kY.nd (Qu (K:=K) Aj0 AD0 PySem.F.type_list_pop Qz (pv 2)))
   (Ac (AL (Bl (K:=K) Aj0 PySem.F.slot_list_extend PySem.F.type_list_extend P1 (AS (Bt (K:=K)) (pv 1) (OE LE Ad) (λ_ _=>rfl)) (Aa (Aj Hg (pv 3) (pv 4)) Ab)))
   (Ae (Ao (Aj Ep (Ai (AF (K:=K)) rfl T.ow Aj3 (Aa (pv 3) Ab)) (Aj FE (pv 4) Ad))))))) Aq)
   (Ac (Aw (A4 (Bl (K:=K) Aj5 Aw2 Aw3 Fi (pv 0) (Aa (Fc T.jV) Ab))) (Ac (AL (Bl (K:=K) Aj0 Aj6 Aj7 A0 (pv 1) (Aa (As Ab) Ab)))
   (Ac (AL (Bl (K:=K) Aj0 Aj6 Aj7 A0 (pv 2) (Aa (Ag cz hr (Aa (pv 0) Ab)) Ab)))
   (Ae (Ao Ad)))) Aq)
   (Ac (AL (Bl (K:=K) Aj0 Aj6 Aj7 A0 (AS (Bt (K:=K)) (pv 1) (OE LE Ad) (λ_ _=>rfl)) (Aa (pv 0) Ab)))
   (Ae (Ao Ad))))),?_⟩
  obtain⟨held,times,count⟩:=s0;have hK:=K0.hs.len;exists Az (λh1=>?_) (λh1=>?_)
  ·
   unfold bE.step at fQ;rw[bS h1] at fQ;split at fQ;rotate_left
   .cases fQ
   rename_i u v st t1 ts e1 e2
   simp only at e1 e2;subst e1 e2;split at fQ;rotate_left
   .cases fQ
   rename_i hc
   cases fQ;obtain⟨gh,hcm⟩:=hc;simp only at hcm
   match as,hK,K0 with
   | a::b::as,hK,K0=>
    obtain⟨ha,hb,vq⟩:=K0.hs;have htm:=K0.tm t1 Ab0;have nd:=K0.nd;have nab:a≠b:=λz=>by rw[z] at nd;simp at nd
    have nha:h≠a:=λz=>K0.nh (by rw[z];simp);have nhb:h≠b:=λz=>K0.nh (by rw[z];simp);have nta:t≠a:=λz=>K0.nt (by rw[z];simp);have ntb:t≠b:=λz=>K0.nt (by rw[z];simp);have aaR:u.length*1<=u.length*(t1 - 1):=Ar4 _ (by omega);have sm:=K0.sm;simp only[Ac3,Af0] at sm;have ct:count<=60:=hct;exists mw (bx.of K0.hh) ?_;w_fin;have eL:((a::b::as).reverse.map V.ref)=(b::as).reverse.map V.ref++[.ref a]:=by rw[Ag6,Ac2];rfl
    refine⟨h,_, .ref a,rfl,rfl,K0.hh,by rw[eL];simp,?_⟩;rw[eL,List.dropLast_concat];have f1:∀x o,x≠h->H x=aS o->upd H h (HO.lst ((b::as).reverse.map V.ref)) x=aS o:=λx o hx e=>by rw[An hx];exact e
    have g1:upd H h (HO.lst ((b::as).reverse.map V.ref)) h=_:=upd_same;have n1:∀x,x≠h->H x=aV->upd H h (HO.lst ((b::as).reverse.map V.ref)) x=none:=λx hx e=>by rw[An hx];exact e
    have m1:∀x,upd H h (HO.lst ((b::as).reverse.map V.ref)) x=aV->H x=none:=λx e=>by
     by_cases hx:x=h
     .rw[hx,upd_same] at e;cases e
     .rw[An hx] at e;exact e
    generalize upd H h _=H1 at f1 g1 n1 m1 ⊢;w_fin;have eT:((t1::ts).reverse.map nV)=ts.reverse.map nV++[nV t1]:=by rw[Ag6,Ac2];rfl
    have yt:=f1 t _ (Ak9 K0.ne) K0.ht;refine mw (bx.of yt) ?_;exists ⟨t,_,nV t1,rfl,rfl,yt,by show ((t1::ts).reverse.map nV)[_]?=_;rw[eT];simp,?_⟩;have eT2:HO.lst ((({ held:=u::v::st,times:=t1::ts,count:=count }:bE.Sm Str).times.reverse.map nV).dropLast)=HO.lst (ts.reverse.map nV):=by
     show HO.lst (((t1::ts).reverse.map nV).dropLast)=_;rw[eT,List.dropLast_concat]
    rw[eT2];have f2:∀x o,x≠t->H1 x=aS o->upd H1 t (HO.lst (ts.reverse.map nV)) x=aS o:=λx o hx e=>by rw[An hx];exact e
    have g2:upd H1 t (HO.lst (ts.reverse.map nV)) t=_:=upd_same;have m2:∀x,upd H1 t (HO.lst (ts.reverse.map nV)) x=aV->H1 x=none:=λx e=>by
     by_cases hx:x=t
     .rw[hx,upd_same] at e;cases e
     .rw[An hx] at e;exact e
    generalize upd H1 t _=H2 at f2 g2 m2 ⊢;w_fin;have gh2:=f2 h _ K0.ne g1;have eL2:((b::as).reverse.map V.ref)=as.reverse.map V.ref++[.ref b]:=by rw[Ag6,Ac2];rfl
    refine AU (bx.of gh2) (by rw[eL2];exact Jb) ?_;w_fin;have gb2:=f2 b _ (Ak9 ntb) (f1 b _ (Ak9 nhb) hb);have ga2:=f2 a _ (Ak9 nta) (f1 a _ (Ak9 nha) ha);refine mw (bx.of gb2) ?_;exists Hv ga2 (by omega) (by omega) (by rw[Aa0];omega) λq hq=>?_;rw[show ((t1:Nat):Int).toNat=t1 by omega,Mg];have s3:=Al (o:=HO.lst ((bE.rep u t1).map V.str)) hq;have g3:upd H2 q (HO.lst ((bE.rep u t1).map V.str)) q=_:=upd_same;generalize upd H2 q _=H3 at s3 g3 ⊢;w_fin;have aaS:u.length*t1=u.length*(t1 - 1)+u.length:=by
     obtain⟨n,rfl⟩:∃n,t1=n+1:=⟨t1 - 1,by omega⟩;rw[As5,AB0]
    refine V2 (s3 _ _ gb2) g3 (by rw[Aa0,Aa0,bE.gD];omega) ?_;rw[<-Ac2];have f4:∀x o,x≠b->H3 x=aS o->upd H3 b (HO.lst ((v++bE.rep u t1).map V.str)) x=aS o:=λx o hx e=>by rw[An hx];exact e
    have g4:upd H3 b (HO.lst ((v++bE.rep u t1).map V.str)) b=_:=upd_same;generalize upd H3 b _=H4 at f4 g4 ⊢;exists Ax (bx.of (f4 a _ nab (s3 _ _ ga2))) ?_;w_fin;rw[Aa0];have hmul:((u.length:Nat):Int)*(((t1:Nat):Int) - 1)=((u.length*(t1 - 1):Nat):Int):=by
     rw[Int.natCast_mul,Int.natCast_sub (by omega)];rfl
    refine AE (.inl ⟨by omega,by omega⟩) ?_;rw[hmul];have z0:=k H4 (b::as) (λx o wC vt vv e=>?_) (λx hx=> .inl (Aa8 _ hx)) ⟨?_,?_,?_,?_,λhx=>K0.nh (Aa8 _ hx),λhx=>K0.nt (Aa8 _ hx),K0.ne,λn hn=>K0.tm n (Aa8 _ hn),?_,?_,?_⟩
    .have e9:((count+u.length*(t1 - 1):Nat):Int) - ((count:Nat):Int)=((u.length*(t1 - 1):Nat):Int):=by omega
     rw[<-e9];exact z0
    .have hxb:x≠b:=λz=>vv (by rw[z];simp);exact f4 x _ hxb (s3 _ _ (f2 x _ vt (f1 x _ wC e)))
    .exact f4 h _ nhb (s3 _ _ gh2)
    .exact f4 t _ ntb (s3 _ _ g2)
    .refine⟨g4,vq.on λx hx o e=>?_⟩;have hxb:x≠b:=λz=>by rw[z] at hx;simp[hx] at nd
     have hxh:x≠h:=λz=>K0.nh (by rw[<-z];simp[hx]);have hxt:x≠t:=λz=>K0.nt (by rw[<-z];simp[hx]);exact f4 x _ hxb (s3 _ _ (f2 x _ hxt (f1 x _ hxh e)))
    .exact(Ap2.mp nd).2
    .simp only[Ac3,Af0,Aa5,bE.gD];omega
    .have:=K0.dp;simp only[Aa9] at this ⊢;omega
    .have:=K0.up;simp only[Aa9] at this ⊢;omega
  exists ⟨rfl,?_⟩;exists _,_,rfl,rfl;w_fin;unfold bE.step at fQ;rw[bG h1] at fQ;refine Nn (λh2=>?_) (λh2=>?_)
  ·
   have h2:Al4 z nM=true:=h2;unfold fV at fQ;rw[bS h2] at fQ;rcases EI z with e | ⟨n,e,n2,n60⟩
   .rw[e] at fQ;cases fQ
   rw[e] at fQ;simp only[Ad3] at fQ;split at fQ;rotate_left
   .cases fQ
   rename_i hc
   cases fQ;exists mw (bx.of K0.hh) ?_;w_fin;intro p hp;have s1:=Al (o:=HO.lst []) hp;have g1:upd H p (HO.lst []) p=aS (.lst (([]:List Str).map V.str)):=upd_same;generalize upd H p _=H1 at s1 g1 ⊢;have la:as.length<=900:=by rw[hK];exact yr
   exists BU (s1 _ _ K0.hh) (by rw[Aa0,Av6];omega) ?_;have eL:as.reverse.map V.ref++[V.ref p]=(p::as).reverse.map V.ref:=by rw[Ag6,Ac2];rfl
   rw[eL];have npo:∀x o,H x=aS o->x≠p:=λx o e z=>by rw[z,hp] at e;cases e
   have f2:∀x o,x≠h->H1 x=aS o->upd H1 h (HO.lst ((p::as).reverse.map V.ref)) x=aS o:=λx o hx e=>by rw[An hx];exact e
   have g2:upd H1 h (HO.lst ((p::as).reverse.map V.ref)) h=_:=upd_same;generalize upd H1 h _=H2 at f2 g2 ⊢;w_fin;have yu:=f2 t _ (Ak9 K0.ne) (s1 _ _ K0.ht);refine mw (bx.of yu) ?_;exists ⟨z,rfl,hz,λH3 s3=>?_⟩;rw[e];w_fin;have dp:=K0.dp;simp only at dp hK;refine BU (s3 _ _ yu) (by rw[Aa0,Av6];show times.length<_;omega) ?_;have eT:(({ held:=held,times:=times,count:=count }:bE.Sm Str).times.reverse.map nV)++[nV n]=(n::times).reverse.map nV:=by rw[Ag6,Ac2];rfl
   rw[eT];have f4:∀x o,x≠t->H3 x=aS o->upd H3 t (HO.lst ((n::times).reverse.map nV)) x=aS o:=λx o hx e=>by rw[An hx];exact e
   have g4:upd H3 t (HO.lst ((n::times).reverse.map nV)) t=_:=upd_same;generalize upd H3 t _=H4 at f4 g4 ⊢;w_fin;have hph:p≠h:=Ak9 (npo h _ K0.hh);have hpt:p≠t:=Ak9 (npo t _ K0.ht);have hpa:p∉as:=λz=>by
    have:∀{as:List Addr} {us:List (List Str)},gy H as us->p∈as->False:=λ{as us}=>by
     induction as generalizing us with
     | nil=>intro _ h;cases h
     | cons a as ih=>
      intro q h
      match us,q with
      | u::us,q=>
       rcases Aa7.mp h with z | z
       .have:=q.1;rw[<-z,hp] at this;cases this
       .exact ih q.2 z
    exact this K0.hs z
   have z0:=k H4 (p::as) (λx o wC vt vv e=>f4 x _ vt (s3 _ _ (f2 x _ wC (s1 _ _ e)))) (λx hx=>?_) ⟨?_,?_,?_,?_,?_,?_,K0.ne,?_,?_,?_,?_⟩
   .have e9:((count:Nat):Int) - ((count:Nat):Int)=0:=by omega
    simp only[e9] at z0;exact z0
   .rcases Aa7.mp hx with z | z
    .rw[z];exact .inr hp
    .exact .inl z
   .exact f4 h _ K0.ne (s3 _ _ g2)
   .exact g4
   .refine⟨f4 p _ hpt (s3 _ _ (f2 p _ hph g1)),K0.hs.on λx hx o e=>?_⟩;have hxh:x≠h:=λz=>K0.nh (by rw[<-z];exact hx);have hxt:x≠t:=λz=>K0.nt (by rw[<-z];exact hx);exact f4 x _ hxt (s3 _ _ (f2 x _ hxh (s1 _ _ e)))
   .exact Ap2.mpr ⟨hpa,K0.nd⟩
   .intro hx;rcases Aa7.mp hx with z | z
    .exact hph z.symm
    .exact K0.nh z
   .intro hx;rcases Aa7.mp hx with z | z
    .exact hpt z.symm
    .exact K0.nt z
   .intro m hm;rcases Aa7.mp hm with z | z
    .rw[z];exact⟨n2,n60⟩
    .exact K0.tm m z
   .have:=K0.sm;simp only[Ac3,Af0,Ah5] at this ⊢;omega
   .simp only[Aa9];omega
   .simp only[Aa9] at yr ⊢;omega
  ·
   have h2:Al4 z nM=false:=h2;have e:fV z=none:=bG (by rw[h2];decide);rw[e] at fQ;simp only at fQ;split at fQ;rotate_left
   .cases fQ
   rename_i u st
   split at fQ;rotate_left
   .cases fQ
   rename_i hc
   cases fQ
   match as,hK,K0 with
   | a::as,hK,K0=>
    obtain⟨ha,vq⟩:=K0.hs;have nd:=K0.nd;have nha:h≠a:=λz=>K0.nh (by rw[z];simp);have nta:t≠a:=λz=>K0.nt (by rw[z];simp);have sm:=K0.sm;have ct:count<=60:=hct;simp only[Ac3,Af0] at sm;w_fin;have eL:((a::as).reverse.map V.ref)=as.reverse.map V.ref++[.ref a]:=by rw[Ag6,Ac2];rfl
    refine AU (bx.of K0.hh) (by rw[eL];exact Jb) ?_;exists mw (bx.of ha) ?_;exists BU ha (by rw[Aa0];omega) ?_;have e2:u.map V.str++[V.str z]=(u++[z]).map V.str:=by rw[Ac2];rfl
    rw[e2];have f1:∀x o,x≠a->H x=aS o->upd H a (HO.lst ((u++[z]).map V.str)) x=aS o:=λx o hx e=>by rw[An hx];exact e
    have g1:upd H a (HO.lst ((u++[z]).map V.str)) a=_:=upd_same;generalize upd H a _=H1 at f1 g1 ⊢;w_fin;have z0:=k H1 (a::as) (λx o wC vt vv e=>f1 x _ (λz=>vv (by rw[z];simp)) e) (λx hx=> .inl hx) ⟨f1 h _ nha K0.hh,f1 t _ nta K0.ht,⟨g1,vq.on λx hx o e=>f1 x _ (λz=>by rw[z] at hx;simp[hx] at nd) e⟩,nd,K0.nh,K0.nt,K0.ne,K0.tm,?_,K0.dp,K0.up⟩
    .have e9:((count+1:Nat):Int) - ((count:Nat):Int)=1:=by omega
     simp only[e9] at z0;exact z0
    .simp only[Ac3,Af0,Aa5,Ah9];omega
theorem Ho(h:n<1000):((n:Nat):Int).natAbs.log2<1920:=by
 have:Nat.log2 n<=n:=Nat.log2_le_self n;show Nat.log2 n<1920;omega
noncomputable def EC(c:Cs):Sp:=λvs H Q _=>∃(a:Addr) (n0:Nat),vs=[.ref a,nV n0]/\H a=aS (iW a c.bL aV)/\n0<1000/\
 ∀dx H',H dx=aV->(∀b o,H b=aS o->b≠a->H' b=aS o)->H' a=aS (iW a c.bL (aS dx))->H' dx=aS (jR dx [("place",nV n0)])->Q .bC H'
noncomputable abbrev BR:Stmt:=BE (top 7) 0
theorem FW:bz ["self","place"] ["self","place"] (Ah BR):=by w_left
theorem BH(F:cR K "__init__" "BadWord.__init__" BR f fd)(T:Txt K mg c):lD P w K mg base 1 f fd ["self","place"] (EC c):=by
 tbr_iter (F.okA FW)
 .obtain⟨a,n0,rfl,ha,b0,k⟩:=h;refine⟨_,(Ac (AL (MX (K:=K) T.iz T.jF (Aa (pv 0) (Aa (KY (Cw Af (Cw (NI (pv 1)) (Cw Af O0)))) Ab))))
   (Ae (Lk (K:=K) (pv 0) (pv 1) rfl))),?_⟩
  have l0:=MN.lQ (i:=((n0:Nat):Int)) (by omega) (by omega);have h0:(Ar0).length=0:=by decide +kernel
  have g0:(Ai9 "word ").length=5:=by decide +kernel
  have g2:(Ai9 " can't stand").length=12:=by decide +kernel
  exists Nt ?_;exists DD ?_;exists _,rfl,?_
  .rw[Ak6];omega
  refine DD ?_;refine NW ?_;exists .inl ⟨_,rfl,Ho b0,_,rfl,?_,?_⟩
  .rw[Ak6,Ak6];omega
  refine DD ?_;exists _,rfl,?_
  .rw[Ak6,Ak6,Ak6];omega
  refine KH ?_;w_fin;obtain⟨fi,hfi⟩:=T.oZ;refine⟨a,_,_,fi,_,rfl,ha,hfi,?_⟩;exists Lj ?_;exists ⟨a,_,_,rfl,ha,T.oW,Gk T.gu, .inl ⟨rfl,λdx iQ=>?_⟩⟩;have nd:dx≠a:=λz=>by rw[z,ha] at iQ;cases iQ
  refine k dx _ iQ (λb o e nb=>?_) upd_same ?_
  .have n2:b≠dx:=λz=>by rw[z,iQ] at e;cases e
   rw[An nb,An n2];exact e
  .rw[An nd,upd_same]
theorem Gf(h:b≠a):bar a H b=H b:=bG h
theorem FA{c:Cs}{E:XK}(hp:p<1000)(h:∀H' dx,Same H H'->H' dx=aS (jR dx [("place",nV p)])->E (.ref c.bL) (aS dx) H'):
  ([nV p]:List V).length<=900/\∀a,H a=aV->EC c (.ref a::[nV p]) (upd H a (iW a c.bL aV)) (λv H2=>v= .bC/\∃od,H2 a=aS (iW a c.bL od)/\E (.ref c.bL) od (bar a H2)) E0:=by
 refine⟨by simp,λa ha=>⟨a,p,rfl,upd_same,hp,λdx H' iQ kp ea ed=>⟨rfl,aS dx,ea,?_⟩⟩⟩;have nd:dx≠a:=λz=>by rw[z,upd_same] at iQ;cases iQ
 refine h _ dx (λb o e=>?_) ?_
 .have nb:b≠a:=λz=>by rw[z,ha] at e;cases e
  rw[Gf nb];exact kp b o (by rw[An nb];exact e) nb
 .rw[Gf nd];exact ed
structure bP(W:Addr->Prop)(H H':Hp):Prop where
 st:∀b o,H b=aS o->¬ W b->H' b=aS o
 th:∀b,H b≠aV->H' b≠aV
theorem bP.of(s:Same H H'):bP W H H':=⟨λb o e _=>s b o e,λb n z=>n (s.free z)⟩
theorem bP.trans(s:bP W H H1)(t:bP W H1 H2):bP W H H2:=⟨λb o e n=>t.st b o (s.st b o e n) n,λb n=>t.th b (s.th b n)⟩
theorem bP.free(s:bP W H H')(n:H' b=aV):H b=none:=by
 cases e:H b with
 | none=>rfl
 | some o=>exact bV n (s.th b (by rw[e];simp))
noncomputable def DJ(fl:Addr)(sL:Sp):Sp:=λvs H Q _=>∃(z:Str) (h t a:Addr) (as:List V) (u:List Str) (ts:List V) (fit:Bool) (G:Hp->Prop),vs=[.str z, .ref h, .ref t, .ref fl]/\z.length<=100/\H h=aS (.lst (as++[.ref a]))/\H a=aS (.lst (u.map V.str))/\H t=aS (.lst ts)/\
 (z≠dg->Al4 z nM=false->∀Q':VK,(∀H',G H'->Q' (.bl fit) H')->sL [.str z] H Q' E0)/\∀H',(Same H H'\/G H')->Q (.bl (EO z ts.length u.length fit)) H'
noncomputable abbrev Fu:Stmt:=top 38
theorem LU:bz ["word","held","times","fits"] ["word","held","times","fits"] (Ah Fu):=by w_left
theorem EN(lv:jQ P w K mg base 6 fl sL)(F:cR K "can_stand" "can_stand" Fu f fd)(T:Txt K mg c)(cz:bF P w K mg base "times_of" 4 ["word"] Fs):bQ P w K mg base c6 7 f fd ["word","held","times","fits"] (DJ fl sL):=by
 tbr_iter (F.ok LU)
 .obtain⟨z,h,t,a,as,u,ts,fit,G,rfl,hz,hh,ha,ht,hf,k⟩:=h;refine⟨_,(Ac (Aw (Ak Bb (pv 0) (Fc T.lG) (Ap _)) (Ae (Ao (ES (Bw CI (Ai (AF (K:=K)) rfl T.ow Aj3 (Aa (pv 2) Ab)) Ad (Ap _)) (Fj (Bw CI (Ai (AF (K:=K)) rfl T.ow Aj3 (Aa (AS (Bt (K:=K)) (pv 1) (OE LE Ad) (λ_ _=>rfl)) Ab)) Ad (Ap _)))))) Aq)
   (Ac (Aw (A4 (Bl (K:=K) Aj5 Aw2 Aw3 Fi (pv 0) (Aa (Fc T.jV) Ab))) (Ae (Ao (Bw GI (Ag cz hr.mo (Aa (pv 0) Ab)) AV (Ap _)))) Aq)
   (Ae (Ao (RJ lv hr.mo (pv 3) (Aa (pv 0) Ab)))))),?_⟩
  exists Az (λh1=>?_) (λh1=>?_)
  .have e:EO z ts.length u.length fit=(decide (0<ts.length)&&decide (0<u.length)):=bS h1;rw[e] at k;exists Ax (bx.of ht) ?_;exists Az (λh2=>?_) (λh2=>?_)
   .exists AU (bx.of hh) Jb ?_;exists Ax (bx.of ha) ?_;w_fin;rw[Aa0];have e2:decide ((0:Int)<((u.length:Nat):Int))=(decide (0<ts.length)&&decide (0<u.length)):=by
     rw[iT (by omega:0<ts.length),Ar5];exact decide_eq_decide.mpr (by omega)
    rw[e2];exact k H (.inl (Same.refl _))
   .have e2:(decide (0<ts.length)&&decide (0<u.length))=false:=by rw[lI (by omega),Af6]
    rw[e2] at k;exact k H (.inl (Same.refl _))
  exists ⟨rfl,?_⟩;exists _,_,rfl,rfl;exists Nn (λh2=>?_) (λh2=>?_)
  .have e:EO z ts.length u.length fit= !decide (C7 z= .bC):=(bG h1).trans (bS h2);rw[e] at k;exists ⟨z,rfl,hz,λH1 s1=>?_⟩;w_fin;exact⟨rfl,k H1 (.inl s1)⟩
  .have e:EO z ts.length u.length fit=fit:=(bG h1).trans (bG (by rw[show Al4 z nM=false from h2];decide));rw[e] at k;exists Se ?_;exists ⟨rfl,?_⟩;w_fin;exact⟨_,rfl,hf h1 h2 _ λH' g=>k H' (.inr g)⟩
noncomputable abbrev M0:bE.Sm Str:=⟨[[]],[],0⟩
noncomputable abbrev rn(fits:Str->Bool)(mx:Nat)(ws:List Str):Option (bE.Sm Str):=bE.run dg fV fits mx M0 ws
noncomputable def Cb(fits:Str->Bool)(mx:Nat)(ws:List Str)(p:Nat):Prop:=(∃s,1<=p/\p<=ws.length/\rn fits mx (ws.take (p - 1))=aS s/\bE.step dg fV fits mx s (ws.getD (p - 1) "")=aV)\/(p=ws.length+1/\∃s,rn fits mx ws=aS s/\(s.times≠[]\/ws=[]))
theorem Iy(hi:i<ws.length)(hs:rn fits mx (ws.take i)=aS s):rn fits mx (ws.take (i+1))=bE.step dg fV fits mx s (ws.getD i ""):=by
 have eg:ws.getD i ""=ws[i]:=by rw[Aa2,Aa3 hi];rfl
 have e2:ws.take (i+1)=ws.take i++[ws[i]]:=by rw[AJ1,Aa3 hi];rfl
 unfold rn;rw[eg,e2,bE.lV,show bE.run dg fV fits mx M0 (ws.take i)=aS s from hs];simp only[bE.run];cases bE.step dg fV fits mx s ws[i] <;> rfl
theorem OS{u:List Str}{st:List (List Str)}{ts:List Nat}{c:Nat}(h:EO z ts.length u.length (fits z)=false):bE.step dg fV fits mx ⟨u::st,ts,c⟩ z=none:=by
 unfold EO at h;unfold bE.step;by_cases h1:z=dg
 .rw[bS h1] at h ⊢;split
  .rename_i u' v lM t ts' e1 e2
   simp only at e1 e2;cases e1;subst e2;rw[Aa9,iT (by omega),Ar5,decide_eq_false_iff_not] at h;rw[bG];rintro⟨q,_⟩;exact h (Ae9.mpr q)
  .rfl
 .rw[bG h1] at h ⊢;unfold fV;by_cases h2:Al4 z nM=true
  .rw[bS h2] at h ⊢;have:C7 z= .bC:=by simpa using h
   rw[this]
  .rw[bG h2] at h ⊢;simp only;rw[bG];rintro⟨q,_⟩;rw[q] at h;cases h
theorem Ss{u:List Str}{st:List (List Str)}{ts:List Nat}{c:Nat}(h:EO z ts.length u.length (fits z)=true)(dp:st.length=ts.length)(cu:u.length<=c)(c60:c<=60)(tm:∀n∈ts,2<=n/\n<=60):
  ∃s',bE.step dg fV fits 100000 ⟨u::st,ts,c⟩ z=aS s'/\s'.held.length<=st.length+2/\∀mx,c<=mx->(s'.count<=mx->bE.step dg fV fits mx ⟨u::st,ts,c⟩ z=aS s')/\(mx<s'.count->bE.step dg fV fits mx ⟨u::st,ts,c⟩ z=aV):=by
 unfold EO at h;unfold bE.step;by_cases h1:z=dg
 .rw[bS h1] at h;rw[Ab5,gi,gi] at h
  match ts,st,h,dp,tm with
  | t::ts,v::st,h,dp,tm=>
   have ht:=tm t Ab0;have hm:u.length*(t - 1)<=60*59:=Nat.mul_le_mul (by omega) (by omega);have hu:u≠[]:=Ae9.mp h.2;refine⟨⟨(v++bE.rep u t)::st,ts,c+u.length*(t - 1)⟩,?_,?_,λmx hc=>⟨λq=>?_,λq=>?_⟩⟩
   .rw[bS h1];exact bS ⟨hu,by show c+u.length*(t - 1)<=100000;omega⟩
   .simp only[Aa9];omega
   .rw[bS h1];exact bS ⟨hu,q⟩
   .rw[bS h1];exact bG λw=>by have:=w.2;simp only at this q;omega
  | [],_,h,_,_=>exact bV h.1 (by simp)
  | _::_,[],_,dp,_=>simp at dp
 .rw[bG h1] at h;unfold fV;by_cases h2:Al4 z nM=true
  .rw[bS h2] at h;rcases EI z with e | ⟨n,e,n2,n60⟩
   .rw[e] at h;cases h
   .refine⟨⟨[]::u::st,n::ts,c⟩,?_,by simp only[Aa9];omega,λmx hc=>⟨λq=>?_,λq=>?_⟩⟩
    .rw[bG h1,bS h2,e];exact bS (by show c<=100000;omega)
    .rw[bG h1,bS h2,e];exact bS hc
    .exact bV hc (by simp only at q;omega)
  .rw[bG h2] at h;refine⟨⟨(u++[z])::st,ts,c+1⟩,?_,by simp only[Aa9];omega,λmx hc=>⟨λq=>?_,λq=>?_⟩⟩
   .rw[bG h1,bG h2];exact bS ⟨h,by show c+1<=100000;omega⟩
   .rw[bG h1,bG h2];exact bS ⟨h,q⟩
   .rw[bG h1,bG h2];exact bG λw=>by have:=w.2;simp only at this q;omega
theorem vp.onX{h t:Addr}(K:vp H h t as s)(k:bP W H H')(nh:¬ W h)(nt:¬ W t)(na:∀b∈as,¬ W b):vp H' h t as s:=⟨k.st _ _ K.hh nh,k.st _ _ K.ht nt,K.hs.on λa ha o e=>k.st a o e (na a ha),K.nd,K.nh,K.nt,K.ne,K.tm,K.sm,K.dp,K.up⟩
noncomputable def Gg(K:aU)(c:Cs)(fl:Addr)(sL:Sp):Sp:=λvs H Q E=>∃(a:Addr) (ws:List Str) (mx:Nat) (fits:Str->Bool) (W:Addr->Prop) (J:Nat->Hp->Prop),vs=[.ref a,nV mx, .ref fl]/\bx K H a (ws.map V.str)/\ws.length<=300/\(∀z∈ws,z.length<=100)/\mx<=60/\(∀b,W b->H b≠aV)/\J 0 H/\(∀n H,J n H->J (n+1) H)/\(∀n H H',(∀b o,W b->H b=aS o->H' b=aS o)->J n H->J n H')/\
 (∀z∈ws,z≠dg->Al4 z nM=false->∀n H' (Q':VK),bP W H H'->J n H'->n<ws.length->(∀gx,bP W H' gx->J (n+1) gx->Q' (.bl (fits z)) gx)->sL [.str z] H' Q' E0)/\
 (∀out cn H' p,rn fits mx ws=aS ⟨[out],[],cn⟩->ws≠[]->bP W H H'->J ws.length H'->H p=aV->H' p=aS (.lst (out.map V.str))->Q (.ref p) H')/\
 (∀p H' dx n,Cb fits mx ws p->bP W H H'->J n H'->n<=ws.length->H' dx=aS (jR dx [("place",nV p)])->E (.ref c.bL) (aS dx) H')
noncomputable abbrev Jl:Stmt:=top 40
theorem dm:bz ["words","most","fits","row","held","times","count","place","word"] ["words","most","fits"] (Ah Jl):=by w_left
theorem Kh(lv:jQ P w K mg base 6 fl sL)(F:cR K "spread" "spread" Jl f fd)(T:Txt K mg c)(cP:bF P w K mg base "can_stand" 7 ["word","held","times","fits"] (DJ fl sL))(iP:bF P w K mg base "taken" 5 ["word","held","times"] Mr)(dw:B5 P w K mg base "BadWord" c.bL 1 ["self","place"] (EC c)):bQ P w K mg base (cW P w) 8 f fd ["words","most","fits"] (Gg K c fl sL):=by
 tbr_iter (cR.uS F dm)
 .obtain⟨a,ws,mx,fits,W,J,rfl,sa,hl,hz,hmx,hW,j0,hJ1,hJ2,hf,kQ,kE⟩:=h;refine⟨_,(Ac (Am 3 dm.nd (Au (Gm (K:=K)) rfl T.ow AR (Aa (pv 0) Ab)))
   (Ac (Am 4 dm.nd (As (Aa (As Ab) Ab)))
   (Ac (Am 5 dm.nd (As Ab))
   (Ac (Am 6 dm.nd Ad)
   (Ac (EK PassesOwn.leaving rfl (QZ (K:=K) rfl T.ow (Aa (pv 3) Ab)) (NA (K:=K) rfl (Cv (BB (i:=7) dm.nd rfl (Ao0 rfl)) (Cv (BB (i:=8) dm.nd rfl (Ao0 rfl)) IA))) (Ac (Aw (BI (A4 (Ag cP hr (Aa (pv 8) (Aa (pv 4) (Aa (pv 5) (Aa (pv 2) Ab))))))) (Ae (Bq dw hr.mo (Aa (pv 7) Ab))) Aq)
   (Ac (WI (i:=6) dm.nd rfl (Ao0 rfl) (Ag iP hr.mo (Aa (pv 8) (Aa (pv 4) (Aa (pv 5) Ab)))) SW)
   (Ae (Aw (Ak CI (pv 6) (pv 1) (Ap _)) (Ae (Bq dw hr.mo (Aa (pv 7) Ab))) Aq)))))
   (Ac (Aw (PW.pt (Dm (Ak CI (Ai (AF (K:=K)) rfl T.ow Aj3 (Aa (pv 5) Ab)) Ad (Ap _)) (Cg (Ak Bb (Ai (AF (K:=K)) rfl T.ow Aj3 (Aa (pv 3) Ab)) Ad (Ap _))))) (Ae (Bq dw hr.mo (Aa (Aj Av (Ai (AF (K:=K)) rfl T.ow Aj3 (Aa (pv 3) Ab)) Ad) Ab))) Aq)
   (Ae (Ao (AS (Bt (K:=K)) (pv 4) Ad (λ_ _=>rfl)))))))))),?_⟩
  exists Kx sa λr zH=>?_;have s1:=Al (o:=HO.lst (ws.map V.str)) zH;have g1:upd H r (HO.lst (ws.map V.str)) r=_:=upd_same;generalize upd H r _=H1 at s1 g1 ⊢;w_fin;intro p0 q9;have s2:=Al (o:=HO.lst []) q9;have g2:upd H1 p0 (HO.lst []) p0=aS (.lst (([]:List Str).map V.str)):=upd_same;generalize upd H1 p0 _=H2 at s2 g2 ⊢;w_fin;intro h0 zK;have s3:=Al (o:=HO.lst [V.ref p0]) zK;have g3:upd H2 h0 (HO.lst [V.ref p0]) h0=aS (.lst ([p0].reverse.map V.ref)):=upd_same;have n30:h0≠p0:=λz=>by rw[z,g2] at zK;cases zK
  generalize upd H2 h0 _=H3 at s3 g3 ⊢;w_fin;intro t0 wD;have s4:=Al (o:=HO.lst []) wD;have g4:upd H3 t0 (HO.lst []) t0=aS (.lst (([]:List Nat).reverse.map nV)):=upd_same;have n40:t0≠p0:=λz=>by rw[z,s3 _ _ g2] at wD;cases wD
  have n43:h0≠t0:=λz=>by rw[<-z,g3] at wD;cases wD
  generalize upd H3 t0 _=H4 at s4 g4 ⊢;have s14:=s2.trans (s3.trans s4);have fh:H1 h0=none:=s2.free zK;have ft:H1 t0=none:=s2.free (s3.free wD);have nW:∀{b:Addr},H1 b=aV->¬ W b:=λn w=>hW _ w (s1.free n);have nWr:¬ W r:=λw=>hW _ w zH;have K0:vp H4 h0 t0 [p0] ⟨[[]],[],0⟩:=⟨s4 _ _ g3,g4,⟨s4 _ _ (s3 _ _ g2),trivial⟩,Ap2.mpr ⟨by simp,List.nodup_nil⟩,by simpa using n30,by simpa using n40,n43,λn hn=>(nomatch hn),rfl,rfl,by decide⟩;have jS:∀{n H H'},Same H H'->J n H->J n H':=λs j=>hJ2 _ _ _ (λb o _ e=>s b o e) j;exists ⟨false,r,rfl,⟨_,bx.of (s14 _ _ g1)⟩,Ea (H0:=λb=>if b=r then aS (.lst (ws.map V.str)) else aV) (Q7 (tp:=false) (bx.of (bS rfl))) (λi σ H5=>∃x y as s,σ=[aS (.ref a),aS (nV mx),aS (.ref fl),aS (.ref r),aS (.ref h0),aS (.ref t0),aS (nV s.count),x,y]/\bP W H1 H5/\vp H5 h0 t0 as s/\s.count<=mx/\s.held.length<=1+i/\rn fits mx (ws.take i)=aS s/\(∀b∈as,H1 b=aV)/\J i H5)
   ⟨_,_,[p0],⟨[[]],[],0⟩,rfl, .of s14,K0,Ad4 _,by decide,rfl,by simpa using q9,jS (s1.trans s14) j0⟩ (λi σ H5 ⟨_,_,_,_,_,s,_⟩ b o e=>?_) ?_ ?_⟩
  .have e:(if b=r then aS (HO.lst (ws.map V.str)) else aV)=aS o:=e;by_cases cb:b=r
   .rw[bS cb] at e;cases e;rw[cb];exact s.st _ _ g1 nWr
   .rw[bG cb] at e;cases e
  .rintro i σ H5 H6 hi ⟨x,y,as,s0,rfl,s5,K5,c5,l5,r5,n5,j5⟩ s6;rw[Aa0] at hi;have eg:(ws.map V.str).getD i .bC= .str (ws.getD i ""):=by
    rw[Aa2,Ac1,Aa2,Aa3 hi];rfl
   rw[eg];have hm:ws.getD i ""∈ws:=by
    rw[Aa2,Aa3 hi];exact Ah6 hi
   have rs:=Iy hi r5;have er:bE.step dg fV fits mx s0 (ws.getD i "")=aV->Cb fits mx ws (i+1):=λq=> .inl ⟨s0,by omega,by omega,by rw[As5];exact r5,by rw[As5];exact q⟩;generalize ws.getD i ""=z at rs hm er ⊢;obtain⟨held,times,count⟩:=s0;have K6:=K5.onX (W:=λ_=>False) (.of s6) id id λ_ _=>id;have s16:bP W H1 H6:=s5.trans (.of s6);have j6:=jS s6 j5
   match as,held,K5.hs,K5.dp with
   | [],[],_,dp=>exact bV (show 0=times.length+1 from dp) (by omega)
   | a0::as,u::st,_,dp=>
    have hz6:=hz z hm;have dp':st.length=times.length:=by simpa using dp
    have sm:=K5.sm;simp only[Ac3,Af0] at sm;w_fin;have eL:((a0::as).reverse.map V.ref)=as.reverse.map V.ref++[.ref a0]:=by rw[Ag6,Ac2];rfl
    refine⟨z,h0,t0,a0,as.reverse.map V.ref,u,times.reverse.map nV,fits z,λH'=>bP W H6 H'/\J (i+1) H',rfl,hz6,by rw[<-eL];exact K6.hh,K6.hs.1,K6.ht,λq1 q2 Q' q=>hf z hm q1 q2 i H6 Q' ((bP.of s1).trans s16) j6 hi λgx a b=>q gx ⟨a,b⟩,λH7 g7=>?_⟩;have s7:bP W H6 H7:=g7.elim .of (·.1);have j7:J (i+1) H7:=g7.elim (λs=>hJ1 _ _ (jS s j6)) (·.2);have s17:=s16.trans s7;rw[Aa0,Av6];have K7:=K6.onX s7 (nW fh) (nW ft) λb hb=>nW (n5 b hb);cases hb:EO z times.length u.length (fits z) with
    | false=>
     exists Bz ?_;w_fin;exact FA (by omega) λH' dx s' ed=>kE (i+1) H' dx (i+1) (er (OS hb)) ((bP.of s1).trans (s17.trans (.of s'))) (jS s' j7) (by omega) ed
    | true=>
     obtain⟨s',fQ,rS,cut⟩:=Ss (c:=count) (st:=st) hb dp' (by omega) (by show count<=60;have:count<=mx:=c5;omega) K5.tm;obtain⟨aax,aay⟩:=cut mx c5;exists V7 rfl ?_;exists ⟨z,h0,t0,a0::as,_,s',fits,100000,rfl,hz6,K7,by simp only[Aa9] at l5 ⊢;omega,by show count<=60;have:count<=mx:=c5;omega,by decide,fQ,λH8 qf fr mem K8=>?_⟩;have ne1:∀{b:Addr},H1 b≠aV->b≠h0/\b≠t0/\b∉a0::as:=λn=>⟨λq=>n (q▸fh),λq=>n (q▸ft),λq=>n (n5 _ q)⟩;have s18:bP W H1 H8:=⟨λb o e nw=>fr b o (ne1 (by rw[e];simp)).1 (ne1 (by rw[e];simp)).2.1 (ne1 (by rw[e];simp)).2.2 (s17.st _ _ e nw),λb n=>by
      cases e:H7 b with
      | none=>exact bV e (s17.th b n)
      | some o=>rw[fr b o (ne1 n).1 (ne1 n).2.1 (ne1 n).2.2 e];simp⟩
     have j8:J (i+1) H8:=hJ2 _ _ _ (λb o w e=>fr b o (λq=>nW fh (q▸w)) (λq=>nW ft (q▸w)) (λq=>nW (n5 b q) w) e) j7;w_fin;have e9:((count:Nat):Int)+(((s'.count:Nat):Int) - ((count:Nat):Int))=((s'.count:Nat):Int):=by omega
     simp only[e9];refine Az (λq=>?_) (λq=>?_)
     .exists Bz ?_;w_fin;exact FA (by omega) λH' dx s9 ed=>kE (i+1) H' dx (i+1) (er (aay (by omega))) ((bP.of s1).trans (s18.trans (.of s9))) (jS s9 j8) (by omega) ed
     .exists ⟨_,_,qf,s',rfl,s18,K8,by omega,?_,rs.trans (aax (by omega)),λb hb=>?_,j8⟩
      .simp only[Aa9] at l5;omega
      .rcases mem b hb with q' | q'
       .exact n5 b q'
       .exact s17.free q'
  .rintro σ H5 ⟨x,y,as,s0,rfl,s5,K5,c5,l5,r5,n5,j5⟩;rw[Aa0] at r5 j5;rw[Ah7] at r5;have k5:rn fits mx ws=aS s0:=r5;obtain⟨held,times,count⟩:=s0;have sX:=(bP.of (W:=W) s1).trans s5;exists Ax (bx.of K5.ht) ?_;w_fin;rw[Aa0,Av6];have er:(times≠[]\/ws=[])->Cb fits mx ws (ws.length+1):=λq=> .inr ⟨rfl,_,k5,q⟩;have bad:∀D:Ends,(times≠[]\/ws=[])->∀H6,Same H5 H6->FR E c.bL (EC c) (Ia (uf (qj λi j=> .int (i+j)) (zc (PQ K) (Ia (N0 3) MC)) (tC (.int 1))) MC) D [aS (.ref a),aS (nV mx),aS (.ref fl),aS (.ref r),aS (.ref h0),aS (.ref t0),aS (nV count),x,y] H6:=λD q H6 s6=>by
    refine Bz ?_;exists Ax (bx.of (s6 _ _ (s5.st _ _ g1 nWr))) ?_;w_fin;rw[Aa0];exact FA (p:=ws.length+1) (by omega) λH' dx s9 ed=>kE _ H' dx _ (er q) (sX.trans (.of (s6.trans s9))) (jS (s6.trans s9) j5) (Aa6 _) ed
   refine Az (λq=>?_) (λq=>?_)
   .refine Mq ?_;exact bad _ (.inl (Ae9.mp (by simpa using q))) H5 (Same.refl _)
   have t0':times=[]:=by simpa using q
   exists Ax (bx.of (s5.st _ _ g1 nWr)) ?_;w_fin;rw[Aa0];refine Az (λq2=>?_) (λq2=>?_)
   .exact bad _ (.inr (Ah1.mp (by omega))) H5 (Same.refl _)
   w_fin;subst t0';have dp:=K5.dp
   match as,held,K5,dp,k5 with
   | [p],[out],K5,_,k5=>
    refine AU (bx.of K5.hh) (v:= .ref p) rfl ?_;exact kQ out count H5 p k5 (λz=>q2 (by rw[z];rfl)) sX j5 (s1.free (n5 p (by simp))) K5.hs.1
   | [],[out],K5,_,_=>exact bV K5.hs id
   | _::_::_,[out],K5,_,_=>exact bV K5.hs.2 id
   | _,[],_,dp,_=>cases dp
   | _,_::_::_,_,dp,_=>exact bV dp (by simp)
structure tR(K:aU)(c:Cs)(C:Addr)(j:Nat):Prop where
 lt:j<8
 xk:HT.ExcKind K C
 k0:Ai6 K (.ref C) (.ref c.bM)=aS (decide (0=j))
 k1:Ai6 K (.ref C) (.ref c.bL)=aS (decide (1=j))
 k2:Ai6 K (.ref C) (.ref c.jC)=aS (decide (2=j))
 k3:Ai6 K (.ref C) (.ref c.iu)=aS (decide (3=j))
 k4:Ai6 K (.ref C) (.ref c.iw)=aS (decide (4=j))
 k5:Ai6 K (.ref C) (.ref c.cD)=aS (decide (5=j))
 k6:Ai6 K (.ref C) (.ref c.iy)=aS (decide (6=j))
 k7:Ai6 K (.ref C) (.ref c.fG)=aS (decide (7=j))
 kv:Ai6 K (.ref C) (.type "ValueError")=aS true
noncomputable def tS(j:Nat):Str:=[("row":Str),("word":Str),("many":Str),("plain":Str),("grown":Str),("draft":Str),("cloth":Str),("place":Str),("other":Str)].getD j ""
noncomputable def FY(K:aU)(c:Cs):Sp:=λvs H Q _=>∃a C od j,vs=[.ref a]/\H a=aS (Gd a C od)/\tR K c C j/\∀H' l,Same H H'->H l=aV->H' l=aS (.lst [.str (tS j)])->Q (.ref l) H'
noncomputable def prK(j:Nat):List (V×V):=(Ab7 9).map λi=>(V.str (tS i),V.bl (decide (i=j)))
theorem Rh(h:i<9):(prK j).getD i (V.bC,V.bC)=(V.str (tS i),V.bl (decide (i=j))):=by
 unfold prK;rw[Aa2,Ac1,List.getElem?_range h];rfl
theorem Vk(j:Nat)(h:j<8):((Ab7 9).filter λi=>decide (i=j)).map (λi=>Dt.str (tS i))=[tS j].map Dt.str:=by
 match j,h with
 | 0,_=>rfl
 | 1,_=>rfl
 | 2,_=>rfl
 | 3,_=>rfl
 | 4,_=>rfl
 | 5,_=>rfl
 | 6,_=>rfl
 | 7,_=>rfl
noncomputable abbrev Ez:Stmt:=top 57
theorem cS:bz ["_law_error","_law_kinds_here"] ["_law_error"] (Ah Ez):=by w_left
theorem JP(F:cR K "_law_kinds" "_law_kinds" Ez f fd)(T:Txt K mg c):bQ P w K mg base c6 1 f fd ["_law_error"] (FY K c):=by
 tbr_iter (F.ok cS)
 .obtain⟨a,C,od,j,rfl,ha,F1,k⟩:=h;refine⟨_,(Ac (Am 1 cS.nd (As (Aa (AY (Aa Af (Aa (Ai (CN (K:=K)) rfl T.ow Aj1 (Aa (pv 0) (Aa (G8 T.kW) Ab))) Ab))) (Aa (AY (Aa Af (Aa (Ai (CN (K:=K)) rfl T.ow Aj1 (Aa (pv 0) (Aa (G8 T.gr) Ab))) Ab))) Ab))))
   (Ac (Am 1 cS.nd (Aj (Bs (K:=K)) (pv 1) (As (Aa (AY (Aa Af (Aa (Ai (CN (K:=K)) rfl T.ow Aj1 (Aa (pv 0) (Aa (G8 T.qb) Ab))) Ab))) (Aa (AY (Aa Af (Aa (Ai (CN (K:=K)) rfl T.ow Aj1 (Aa (pv 0) (Aa (G8 T.oO) Ab))) Ab))) Ab)))))
   (Ac (Am 1 cS.nd (Aj (Bs (K:=K)) (pv 1) (As (Aa (AY (Aa Af (Aa (Ai (CN (K:=K)) rfl T.ow Aj1 (Aa (pv 0) (Aa (G8 T.oQ) Ab))) Ab))) (Aa (AY (Aa Af (Aa (Ai (CN (K:=K)) rfl T.ow Aj1 (Aa (pv 0) (Aa (G8 T.oR) Ab))) Ab))) Ab)))))
   (Ac (Am 1 cS.nd (Aj (Bs (K:=K)) (pv 1) (As (Aa (AY (Aa Af (Aa (Ai (CN (K:=K)) rfl T.ow Aj1 (Aa (pv 0) (Aa (G8 T.oU) Ab))) Ab))) (Aa (AY (Aa Af (Aa (Ai (CN (K:=K)) rfl T.ow Aj1 (Aa (pv 0) (Aa (G8 T.lY) Ab))) Ab))) Ab)))))
   (Ac (Am 1 cS.nd (Aj (Bs (K:=K)) (pv 1) (As (Aa (AY (Aa Af (Aa (Rc (Ai (CN (K:=K)) rfl T.ow Aj1 (Aa (pv 0) (Aa (Ca rfl T.ow Iq) Ab)))) Ab))) Ab))))
   (Ae (Ao (Je (K:=K) (Bp (K:=K) (pv 1)) (λ_ _ _ _=>(GR (A4 (pv 1)))) (λ_ _ _ _=>(pv 0)))))))))),?_⟩
  exists Cz ha F1.xk F1.k0 ?_;w_fin;row_lines H x1;exists Cz (s1 _ _ ha) F1.xk F1.k1 ?_;w_fin;row_lines H1 x2;w_fin;row_lines H2 x3;have y3:=s1.trans (s2.trans s3);exists Cz (y3 _ _ ha) F1.xk F1.k2 ?_;w_fin;row_lines H3 x4;exists Cz (s4 _ _ (y3 _ _ ha)) F1.xk F1.k3 ?_;w_fin;row_lines H4 x5;w_fin;row_lines H5 x6;refine Dh (bx.of (s6 _ _ (s5 _ _ (s4 _ _ g3)))) (bx.of g6) (by simp) ?_;row_lines H6 x7;have y7:=y3.trans (s4.trans (s5.trans (s6.trans s7)));exists Cz (y7 _ _ ha) F1.xk F1.k4 ?_;w_fin;row_lines H7 x8;exists Cz (s8 _ _ (y7 _ _ ha)) F1.xk F1.k5 ?_;w_fin;row_lines H8 x9;w_fin;row_lines H9 x10;refine Dh (bx.of (s10 _ _ (s9 _ _ (s8 _ _ g7)))) (bx.of g10) (by simp) ?_;row_lines H10 x11;have y11:=y7.trans (s8.trans (s9.trans (s10.trans s11)));exists Cz (y11 _ _ ha) F1.xk F1.k6 ?_;w_fin;row_lines H11 x12;exists Cz (s12 _ _ (y11 _ _ ha)) F1.xk F1.k7 ?_;w_fin;row_lines H12 x13;w_fin;row_lines H13 x14;refine Dh (bx.of (s14 _ _ (s13 _ _ (s12 _ _ g11)))) (bx.of g14) (by simp) ?_;row_lines H14 x15;have y15:=y11.trans (s12.trans (s13.trans (s14.trans s15)));exists Pq (y15 _ _ ha) F1.xk F1.kv ?_;w_fin;row_lines H15 x16;w_fin;row_lines H16 x17;refine Dh (bx.of (s17 _ _ (s16 _ _ g15))) (bx.of g17) (by simp) ?_;row_lines H17 x18;have u16:=s17.trans s18;have u13:=s14.trans (s15.trans (s16.trans u16));have u12:=s13.trans u13;have u9:=s10.trans (s11.trans (s12.trans u12));have u8:=s9.trans u9;have u5:=s6.trans (s7.trans (s8.trans u8));have u4:=s5.trans u5;have u2:=s3.trans (s4.trans u4);have zL:=s1.trans (s2.trans u2);have lt:=F1.lt;exists ⟨p18,rfl,⟨_,bx.of g18⟩,λD hD=>?_⟩;refine HH (m:=0) (p:=λi=>decide (i=j)) (G:=λi=> .str (tS i)) (P4 (ps:=prK j) (bx.of g18) (λi hi=>?_) rfl rfl) hD (by simp) ?_ ?_ ?_
  .have hi:i<9:=hi;rw[Rh hi]
   match i,hi with
   | 0,_=>exact⟨p1,rfl,s2.trans u2 _ _ g1⟩
   | 1,_=>exact⟨p2,rfl,u2 _ _ g2⟩
   | 2,_=>exact⟨p4,rfl,u4 _ _ g4⟩
   | 3,_=>exact⟨p5,rfl,u5 _ _ g5⟩
   | 4,_=>exact⟨p8,rfl,u8 _ _ g8⟩
   | 5,_=>exact⟨p9,rfl,u9 _ _ g9⟩
   | 6,_=>exact⟨p12,rfl,u12 _ _ g12⟩
   | 7,_=>exact⟨p13,rfl,u13 _ _ g13⟩
   | 8,_=>exact⟨p16,rfl,by rw[lI (show ¬ 8=j by omega)];exact u16 _ _ g16⟩
  .intro i H' R hi s kk;rw[Rh hi];w_fin;exact kk H' (Same.refl _)
  .intro i H' R hi hp s kk;rw[Rh hi];w_fin;exact kk H' _ (Same.refl _) (.str _)
  .intro H' ys s hl r;have r:Rp _ _ _ _ (.lst (((Ab7 9).filter λi=>decide (i=j)).map (λi=>Dt.str (tS i)))):=r;rw[Vk j lt] at r;obtain⟨b,eb,hb,_⟩:=Mw (zs:=[tS j]) r;cases eb;exact k H' D (zL.trans s) (zL.free hD) hb
noncomputable abbrev jI:Str:="abcdefghijklmnopqrstuvwxyz"
noncomputable def KA(z:Str):Prop:=z.length=1/\(!(Ak0 jI z 0 jI.length 1).isEmpty)=true
noncomputable def Od(z:Str):Bool:=decide (z.length=1)&& !(Ak0 jI z 0 jI.length 1).isEmpty
noncomputable def Ef:Sp:=λvs H Q _=>∃z,vs=[.str z]/\z.length<=100/\Q (.bl (Od z)) H
noncomputable abbrev Fm:Stmt:=top 20
theorem LN:bz ["thing"] ["thing"] (Ah Fm):=by w_left
theorem Me(F:cR K "is_colour" "is_colour" Fm f fd)(T:Txt K mg c):bQ P w K mg base c6 1 f fd ["thing"] Ef:=by
 tbr_iter (F.ok LN)
 .obtain⟨z,rfl,hz,k⟩:=h;unfold Od at k;refine⟨_,(Ae (Ao (ES (Ai (BP (K:=K)) rfl T.ow Aj1 (Aa (pv 0) (Aa (Ca rfl T.ow As6) Ab))) (ES (Bw Bb (Ai (AF (K:=K)) rfl T.ow Aj3 (Aa (pv 0) Ab)) Ad (Ap _)) (Fj (Bw KB (pv 0) (Fc T.qe) (by with_unfolding_all rfl))))))),?_⟩;exists Bi (.str z) (kb (b:=true) (by decide +kernel)) ?_;exists EB (Ab4 hz (by decide)) ?_;exists Az (λq=>?_) (λq=>?_)
  .rw[iT (by omega),Ar5] at k;w_fin;exact⟨_,_,rfl,rfl,k⟩
  .rw[lI (by omega),Af6] at k;exact k
noncomputable def OF:Sp:=λvs H Q _=>∃z,vs=[.bl true, .str z]/\Q .bC H
noncomputable abbrev N1:Stmt:=top 25
theorem Uh:bz ["holds","words"] ["holds","words"] (Ah N1):=by w_left
theorem Tq(F:cR K "need" "need" N1 f fd)(T:Txt K mg c):bQ P w K mg base c6 1 f fd ["holds","words"] OF:=by
 tbr_iter (F.ok Uh)
 .obtain⟨z,rfl,k⟩:=h;refine⟨_,(Ae (Aw (BI (A4 (pv 0))) (Ae SI) Aq)),?_⟩;w_fin;exact k
noncomputable def Gv:Sp:=λvs H Q _=>∃a xs,∃lo hi:Int,vs=[.ref a, .int lo, .int hi]/\H a=aS (.lst xs)/\lo<=xs.length/\xs.length<=hi/\Q (.bl true) H
noncomputable abbrev Hm:Stmt:=top 26
theorem NY:bz ["thing","least","most"] ["thing","least","most"] (Ah Hm):=by w_left
theorem NC(F:cR K "is_list" "is_list" Hm f fd)(T:Txt K mg c)(bB:bF P w K mg base "is_among" 2 ["thing","least","most"] (Bg K)):bQ P w K mg base c6 3 f fd ["thing","least","most"] Gv:=by
 tbr_iter (F.ok NY)
 .obtain⟨a,xs,lo,hi,rfl,ha,h1,h2,k⟩:=h;refine⟨_,(Ae (Ao (ES (Ai (BP (K:=K)) rfl T.ow Aj1 (Aa (pv 0) (Aa (Ca rfl T.ow AR) Ab))) (Fj (Ag bB hr (Aa (Ai (AF (K:=K)) rfl T.ow Aj3 (Aa (pv 0) Ab)) (Aa (pv 1) (Aa (pv 2) Ab)))))))),?_⟩;exists Bi (.lst ha) (kb (b:=true) (by decide +kernel)) ?_;exists Ax (bx.of ha) ?_;exists _,_,_,rfl,⟨_, .int _⟩;refine HN ?_ k;show (decide (lo<=(xs.length:Nat))&&decide (((xs.length:Nat):Int)<=hi))=true;simp[h1,h2]
noncomputable def Lc(m:Nat)(ns:List Nat):Prop:=∀i,i<ns.length->(0::ns).getD i 0+1<=ns.getD i 0/\ns.getD i 0<=m
noncomputable def GM:Sp:=λvs H Q _=>∃a ns m,vs=[.ref a,nV m]/\H a=aS (.lst (ns.map nV))/\Lc m ns/\∀H',Same H H'->Q (.bl true) H'
noncomputable abbrev E8:Stmt:=top 27
theorem eW:bz ["thing","most","last","number"] ["thing","most"] (Ah E8):=by w_left
theorem Lm(F:cR K "is_rising" "is_rising" E8 f fd)(T:Txt K mg c)(bB:bF P w K mg base "is_among" 2 ["thing","least","most"] (Bg K)):bQ P w K mg base c6 3 f fd ["thing","most"] GM:=by
 tbr_iter (F.ok eW)
 .obtain⟨a,ns,m,rfl,ha,vq,k⟩:=h;refine⟨_,(Ac (Aw (BI (A4 (Ai (BP (K:=K)) rfl T.ow Aj1 (Aa (pv 0) (Aa (Ca rfl T.ow AR) Ab))))) (Ae (Ao FC)) Aq)
   (Ac (Am 2 eW.nd Ad)
   (Ac (EK Al5 rfl (Bp (K:=K) (pv 0)) (BB (i:=3) eW.nd rfl (Ao0 rfl)) (Ac (Aw (BI (A4 (Ag bB hr (Aa (pv 3) (Aa (Aj Av (pv 2) Ad) (Aa (pv 1) Ab)))))) (Ae (Ao FC)) Aq)
   (Ae (Am 2 eW.nd (pv 3)))))
   (Ae (Ao FC))))),?_⟩
  exists Bi (.lst ha) (kb (b:=true) (by decide +kernel)) ?_;exists ⟨a,rfl,⟨_,bx.of ha⟩,Ul (LF (bx.of ha)) (λi σ H3=>∃x,σ=[aS (.ref a),aS (nV m),aS (nV ((0::ns).getD i 0)),x]/\Same H H3) ⟨_,rfl,Same.refl _⟩ (λi σ H3 ⟨_,_,s⟩=>s) ?_ ?_⟩
  .rintro i σ H' H3 hi ⟨x,rfl,s'⟩ s3;have gn:i<ns.length:=by simpa using hi
   have hq:=vq i gn;rw[M7 hi];exists _,_,_,rfl,⟨_, .int _⟩;w_fin;have e:Be (.int (ns.getD i 0:Nat)) (((0::ns).getD i 0:Nat)+1) (m:Nat)=true:=by
    show (decide ((((0::ns).getD i 0:Nat):Int)+1<=(ns.getD i 0:Nat))&&decide (((ns.getD i 0:Nat):Int)<=(m:Nat)))=true;simp only[Ab5,decide_eq_true_eq];omega
   rw[e];refine Qo ?_;w_fin;exact⟨_,rfl,s'.trans s3⟩
  .rintro σ H3 ⟨x,rfl,s3⟩;w_fin;exact k H3 s3
noncomputable def F0:Sp:=λvs H Q _=>∃v ls m,vs=[v,nV m]/\Rp H FT 2 v (qM ls)/\(∀l∈ls,Lc m l)/\∀H',Same H H'->Q (.bl true) H'
noncomputable abbrev Ex:Stmt:=top 28
theorem Kb:bz ["thing","most"] ["thing","most"] (Ah Ex):=by w_left
theorem JY(F:cR K "are_rising" "are_rising" Ex f fd)(T:Txt K mg c)(iG:bF P w K mg base "is_rising" 3 ["thing","most"] GM):bQ P w K mg base c6 4 f fd ["thing","most"] F0:=by
 tbr_iter (F.ok Kb)
 .obtain⟨v,ls,m,rfl,rv,vq,k⟩:=h;obtain⟨m',a,vs,em,rfl,ha,_,hl,hb,el⟩:=Ey rv;cases em;rw[Aa0] at hl;refine⟨_,(Ae (Ao (Ai (MA (K:=K)) rfl T.ow Ec (Aa (AD (Bp (K:=K) (pv 0)) (λ_ _ _ _=>AC) (λ_ _ _ _=>(Ag iG hr (Aa (pv 0) (Aa (pv 1) Ab))))) Ab)))),?_⟩;exists ⟨a,rfl,⟨_,bx.of ha⟩,λD hD=>?_⟩;refine GK (G:=λ_=>true) (AH (bx.of ha) rfl) hD hb ?_ ?_
  .intro i H' R hi s kk;have gn:i<ls.length:=by omega
   have r:=el i (by simpa using gn);rw[getD_map dL ls i .bC [] gn] at r;obtain⟨b,eb,kB,_,_⟩:=Kj r;rw[eb];w_fin;exact⟨b,_,m,rfl,s _ _ kB,vq _ (getD_mem gn),kk⟩
  .intro H' s lC;exists JC (bx.of lC) ?_;refine HN ?_ (k H' s);simp
noncomputable def Fa:Sp:=λvs H Q _=>∃(a:Addr) (zs:List Str),vs=[.ref a,nV zs.length]/\H a=aS (.lst (zs.map V.str))/\zs.length<=1000/\(∀z∈zs,KA z)/\∀H',Same H H'->Q (.bl true) H'
noncomputable abbrev DP:Stmt:=top 29
theorem JM:bz ["thing","many"] ["thing","many"] (Ah DP):=by w_left
theorem IQ(F:cR K "are_colours" "are_colours" DP f fd)(T:Txt K mg c)(dz:bF P w K mg base "is_list" 3 ["thing","least","most"] Gv)(dB:bF P w K mg base "is_colour" 1 ["thing"] Ef):bQ P w K mg base c6 4 f fd ["thing","many"] Fa:=by
 tbr_iter (F.ok JM)
 .obtain⟨a,zs,rfl,ha,hz,hc,k⟩:=h;refine⟨_,(Ae (Ao (ES (Ag dz hr (Aa (pv 0) (Aa (pv 1) (Aa (pv 1) Ab)))) (Fj (Ai (MA (K:=K)) rfl T.ow Ec (Aa (AD (Bp (K:=K) (pv 0)) (λ_ _ _ _=>AC) (λ_ _ _ _=>(Ag dB hr.mo (Aa (pv 0) Ab)))) Ab)))))),?_⟩;exists ⟨a,_,_,_,rfl,ha,by simp,by simp,?_⟩;exists ⟨a,rfl,⟨_,bx.of ha⟩,λD hD=>?_⟩;refine GK (G:=λ_=>true) (AH (bx.of ha) rfl) hD (by rw[Aa0];omega) ?_ ?_
  .intro i H' R hi s kk;have gn:i<zs.length:=by simpa using hi
   rw[GV hi];exists _,rfl,Ab4 (AG0 (hc _ (getD_mem gn)).1) (by decide);rw[show Od (zs.getD i _)=true by unfold Od;rw[(hc _ (getD_mem gn)).2,iT (hc _ (getD_mem gn)).1];rfl];exact kk H' (Same.refl _)
  .intro H' s lC;exists JC (bx.of lC) ?_;refine HN ?_ (k H' s);simp
structure Dr where
 sh:Nat
 tr:Nat
 th:List Nat
 ti:List (List Nat)
 td:List (List Nat)
 wa:List Str
 we:List Str
structure eG(d:Dr):Prop where
 s1:1<=d.sh
 s2:d.sh<=16
 t1:1<=d.tr
 t2:d.tr<=16
 h1:1<=d.th.length
 h2:d.th.length<=60
 hs:∀n∈d.th,n<=d.sh
 il:d.ti.length=d.tr
 ir:∀l∈d.ti,Lc d.sh l
 p1:1<=d.td.length
 p2:d.td.length<=60
 pr:∀l∈d.td,Lc d.tr l
 wl:d.wa.length=d.th.length
 wc:∀z∈d.wa,KA z
 fl:d.we.length=d.td.length
 fc:∀z∈d.we,KA z
structure Parts(H:Hp)(d:Dr)(vs:List V):Prop where
 ex:∃a1 v2 v3 a4 a5,vs=[nV d.sh,nV d.tr, .ref a1,v2,v3, .ref a4, .ref a5]/\H a1=aS (.lst (d.th.map nV))/\Rp H FT 2 v2 (qM d.ti)/\Rp H FT 2 v3 (qM d.td)/\H a4=aS (.lst (d.wa.map V.str))/\H a5=aS (.lst (d.we.map V.str))
theorem Parts.same(p:Parts H d vs)(s:Same H H'):Parts H' d vs:=by
 obtain⟨a1,v2,v3,a4,a5,e,h1,h2,h3,h4,h5⟩:=p.ex;exact⟨a1,v2,v3,a4,a5,e,s _ _ h1,h2.same s,h3.same s,s _ _ h4,s _ _ h5⟩
theorem am{lo hi:Int}(h1:lo<=n)(h2:(n:Int)<=hi):Be (nV n) lo hi=true:=by
 show (decide (lo<=(n:Nat))&&decide (((n:Nat):Int)<=hi))=true;simp[h1,h2]
noncomputable def F8:Sp:=λvs H Q _=>∃d,Parts H d vs/\eG d/\∀H',Same H H'->Q .bC H'
noncomputable abbrev EQ:Stmt:=top 30
theorem J7:bz ["shafts","treadles","threading","ties","treading","warp","weft"] ["shafts","treadles","threading","ties","treading","warp","weft"] (Ah EQ):=by w_left
theorem J4(F:cR K "need_draft" "need_draft" EQ f fd)(T:Txt K mg c)(eK:bF P w K mg base "need" 1 ["holds","words"] OF)(bB:bF P w K mg base "is_among" 2 ["thing","least","most"] (Bg K))(dz:bF P w K mg base "is_list" 3 ["thing","least","most"] Gv)(eX:bF P w K mg base "are_rising" 4 ["thing","most"] F0)(dY:bF P w K mg base "are_colours" 4 ["thing","many"] Fa):bQ P w K mg base c6 5 f fd ["shafts","treadles","threading","ties","treading","warp","weft"] F8:=by
 refine F.ok J7 (λvs H Q E h=>?_) (λgk A bw s H vs Q E hr h=>?_)
 .obtain⟨d,⟨a1,v2,v3,a4,a5,rfl,_⟩,_⟩:=h;rfl
 .obtain⟨d,⟨a1,v2,v3,a4,a5,rfl,h1,h2,h3,h4,h5⟩,ok,k⟩:=h;obtain⟨m2,a2,zz,zM,rfl,pJ,_,lC,kB,jL⟩:=Ey h2;obtain⟨m3,a3,vs3,wF,rfl,sE,_,rM,pO,wG⟩:=Ey h3;rw[Aa0] at lC rM;refine⟨_,(Ac (AL (Ag eK hr.mo (Aa (Ag bB hr.mo (Aa (pv 0) (Aa Ad (Aa (Fd T.i6) Ab)))) (Aa Af Ab))))
   (Ac (AL (Ag eK hr.mo (Aa (Ag bB hr.mo (Aa (pv 1) (Aa Ad (Aa (Fd T.gT) Ab)))) (Aa Af Ab))))
   (Ac (AL (Ag eK hr.mo (Aa (Ag dz hr.mo (Aa (pv 2) (Aa Ad (Aa (Fd T.j3) Ab)))) (Aa Af Ab))))
   (Ac (AL (Ag eK hr.mo (Aa (Ai (MA (K:=K)) rfl T.ow Ec (Aa (AD (Bp (K:=K) (pv 2)) (λ_ _ _ _=>AC) (λ_ _ _ _=>(Ag bB hr.mo (Aa (pv 0) (Aa Ad (Aa (pv 1) Ab)))))) Ab)) (Aa Af Ab))))
   (Ac (AL (Ag eK hr.mo (Aa (Ag dz hr.mo (Aa (pv 3) (Aa (pv 1) (Aa (pv 1) Ab)))) (Aa Af Ab))))
   (Ac (AL (Ag eK hr.mo (Aa (Ag eX hr (Aa (pv 3) (Aa (pv 0) Ab))) (Aa Af Ab))))
   (Ac (AL (Ag eK hr.mo (Aa (Ag dz hr.mo (Aa (pv 4) (Aa Ad (Aa (Fd T.jG) Ab)))) (Aa Af Ab))))
   (Ac (AL (Ag eK hr.mo (Aa (Ag eX hr (Aa (pv 4) (Aa (pv 1) Ab))) (Aa Af Ab))))
   (Ac (AL (Ag eK hr.mo (Aa (Ag dY hr (Aa (pv 5) (Aa (Ai (AF (K:=K)) rfl T.ow Aj3 (Aa (pv 2) Ab)) Ab))) (Aa Af Ab))))
   (Ae (AL (Ag eK hr.mo (Aa (Ag dY hr (Aa (pv 6) (Aa (Ai (AF (K:=K)) rfl T.ow Aj3 (Aa (pv 4) Ab)) Ab))) (Aa Af Ab)))))))))))))),?_⟩
  exists _,_,_,rfl,⟨_, .int _⟩;w_fin;rw[am (by have:=ok.s1;omega) (by have:=ok.s2;omega)];refine⟨_,rfl,?_⟩;exists _,_,_,rfl,⟨_, .int _⟩;w_fin;rw[am (by have:=ok.t1;omega) (by have:=ok.t2;omega)];refine⟨_,rfl,?_⟩;exists ⟨a1,_,_,_,rfl,h1,by have:=ok.h1;simp;omega,by have:=ok.h2;simp;omega,?_⟩;exists _,rfl;exists ⟨a1,rfl,⟨_,bx.of h1⟩,λD hD=>?_⟩;refine GK (G:=λ_=>true) (AH (bx.of h1) rfl) hD (by have:=ok.h2;rw[Aa0];omega) ?_ ?_
  .intro i H' R hi s kk;have gn:i<d.th.length:=by simpa using hi
   rw[M7 hi];exists _,_,_,rfl,⟨_, .int _⟩;have:=ok.hs _ (getD_mem (y:=0) gn);rw[am (by omega) (by omega)];exact kk H' (Same.refl _)
  intro H1 s1 wH;exists JC (bx.of wH) ?_;rw[show ((Ab7 (d.th.map nV).length).map λ_=>true).all id=true by simp];exists _,rfl;exists ⟨a2,_,_,_,rfl,s1 _ _ pJ,by have:=ok.il;omega,by have:=ok.il;omega,?_⟩;exists _,rfl;exists ⟨_,d.ti,d.sh,rfl,h2.same s1,ok.ir,λH2 s2=>?_⟩;exists _,rfl;w_fin;have s12:=s1.trans s2;refine⟨a3,_,_,_,rfl,s12 _ _ sE,by have:=ok.p1;omega,by have:=ok.p2;omega,?_⟩;exists _,rfl;exists ⟨_,d.td,d.tr,rfl,h3.same s12,ok.pr,λH3 s3=>?_⟩;have s13:=s12.trans s3;exists _,rfl;exists Ax (bx.of (s13 _ _ h1)) ?_;exists ⟨a4,d.wa,by rw[Aa0,ok.wl],s13 _ _ h4,by have:=ok.wl;have:=ok.h2;omega,ok.wc,λH4 s4=>?_⟩;have s14:=s13.trans s4;exists _,rfl;exists Ax (bx.of (s14 _ _ sE)) ?_;exists ⟨a5,d.we,by rw[rM,ok.fl],s14 _ _ h5,by have:=ok.fl;have:=ok.p2;omega,ok.fc,λH5 s5=>?_⟩;exists _,rfl;w_fin;exact k _ (s14.trans s5)
noncomputable def Ux(C:Addr)(H:Hp)(x:Addr)(d:Dr):Prop:=∃dx v1 v2 v3 v4 v5,H x=aS (.ins C dx [("shafts",nV d.sh),("treadles",nV d.tr),("threading",v1),("ties",v2),("treading",v3),("warp",v4),("weft",v5)])/\
 Rp H FT 1 v1 (dT d.th)/\Rp H FT 2 v2 (zA d.ti)/\Rp H FT 2 v3 (zA d.td)/\Rp H FT 1 v4 (uP d.wa)/\Rp H FT 1 v5 (uP d.we)
noncomputable def B8(c:Cs):Sp:=λvs H Q _=>∃(x dx:Addr) (ws:List V) (d:Dr),vs= .ref x::ws/\H x=aS (.ins c.bT dx [])/\Parts H d ws/\eG d/\∀H',pX x H H'->Ux c.bT H' x d->Q .bC H'
noncomputable abbrev Ck:Stmt:=BE (top 31) 0
theorem Ha:bz ["self","shafts","treadles","threading","ties","treading","warp","weft"] ["self","shafts","treadles","threading","ties","treading","warp","weft"] (Ah Ck):=by w_left
theorem GP(F:cR K "__init__" "Draft.__init__" Ck f fd)(T:Txt K mg c)(gE:bF P w K mg base "need_draft" 5 ["shafts","treadles","threading","ties","treading","warp","weft"] F8):bQ P w K mg base c6 6 f fd ["self","shafts","treadles","threading","ties","treading","warp","weft"] (B8 c):=by
 refine F.ok Ha (λvs H Q E h=>?_) (λgk A bw s H vs Q E hr h=>?_)
 .obtain⟨x,dx,ws,d,rfl,_,⟨a1,v2,v3,a4,a5,rfl,_⟩,_⟩:=h;rfl
 .obtain⟨x,dx,ws,d,rfl,hx,ps,ok,k⟩:=h;have zG:=ps;obtain⟨a1,v2,v3,a4,a5,rfl,h1,h2,h3,h4,h5⟩:=ps;refine⟨_,(Ac (AL (Ag gE hr (Aa (pv 1) (Aa (pv 2) (Aa (pv 3) (Aa (pv 4) (Aa (pv 5) (Aa (pv 6) (Aa (pv 7) Ab)))))))))
   (Ac (Gw (pv 0) (pv 1) rfl)
   (Ac (Gw (pv 0) (pv 2) rfl)
   (Ac (Gw (pv 0) (Au (Ee (K:=K)) rfl T.ow A6 (Aa (pv 3) Ab)) rfl)
   (Ac (Gw (pv 0) (Au (Ee (K:=K)) rfl T.ow A6 (Aa (AD (Bp (K:=K) (pv 4)) (λ_ _ _ _=>AC) (λ_ _ _ _=>(Au (Ee (K:=K)) rfl T.ow A6 (Aa (pv 0) Ab)))) Ab)) rfl)
   (Ac (Gw (pv 0) (Au (Ee (K:=K)) rfl T.ow A6 (Aa (AD (Bp (K:=K) (pv 5)) (λ_ _ _ _=>AC) (λ_ _ _ _=>(Au (Ee (K:=K)) rfl T.ow A6 (Aa (pv 0) Ab)))) Ab)) rfl)
   (Ac (Gw (pv 0) (Au (Ee (K:=K)) rfl T.ow A6 (Aa (pv 6) Ab)) rfl)
   (Ae (Gw (pv 0) (Au (Ee (K:=K)) rfl T.ow A6 (Aa (pv 7) Ab)) rfl))))))))),?_⟩
  exists ⟨d,zG,ok,λH1 s1=>?_⟩;w_fin;have B:pX x H H1:=pX.of s1;have wC:=s1 _ _ hx;refine Gc wC T.cH.cl T.gR (by decide) ?_;replace B:=B.put (o:=HO.ins c.bT dx (A9 "shafts" (nV d.sh) []));have vt:upd H1 x (HO.ins c.bT dx (A9 "shafts" (nV d.sh) [])) x=_:=upd_same;generalize upd H1 x _=H2 at B vt ⊢;exists Gc vt T.cH.cl T.fR (by show 1<1000;decide) ?_;replace B:=B.put (o:=HO.ins c.bT dx (A9 "treadles" (nV d.tr) (A9 "shafts" (nV d.sh) [])));have vv:upd H2 x (HO.ins c.bT dx (A9 "treadles" (nV d.tr) (A9 "shafts" (nV d.sh) []))) x=_:=upd_same;generalize upd H2 x _=H3 at B vv ⊢;exists Df (bx.of (B _ _ h1 (GQ h1 hx (by intro z;cases z)))) λt1 yt=>?_;w_fin;have vz:=Al (o:=HO.tup (d.th.map nV)) yt _ _ vv;have r1:Rp (upd H3 t1 (HO.tup (d.th.map nV))) FT 1 (.ref t1) (dT d.th):=Vu upd_same (by have:=ok.h2;omega);replace B:=B.same (Al (o:=HO.tup (d.th.map nV)) yt);generalize upd H3 t1 _=H4 at B vz r1 ⊢;refine Gc vz T.cH.cl T.fH (by show 2<1000;decide) ?_;replace r1:=r1.ins (o:=HO.ins c.bT dx (A9 "threading" (.ref t1) (A9 "treadles" (nV d.tr) (A9 "shafts" (nV d.sh) [])))) vz;replace B:=B.put (o:=HO.ins c.bT dx (A9 "threading" (.ref t1) (A9 "treadles" (nV d.tr) (A9 "shafts" (nV d.sh) []))));have hx5:upd H4 x (HO.ins c.bT dx (A9 "threading" (.ref t1) (A9 "treadles" (nV d.tr) (A9 "shafts" (nV d.sh) [])))) x=_:=upd_same;generalize upd H4 x _=H5 at B hx5 r1 ⊢;w_fin;obtain⟨m2,a2,zz,zM,rfl,pJ,_,lC,kB,jL⟩:=Ey (B.rp hx h2);cases zM;rw[Aa0] at lC;refine⟨a2,rfl,⟨_,bx.of pJ⟩,λD hD=>?_⟩;refine A3 (m:=1) (G:=λi=>dT (d.ti.getD i [])) (AH (bx.of pJ) rfl) hD kB ?_ ?_
  .intro i H' R hi s kk;have gn:i<d.ti.length:=by omega
   have r:=jL i (by simpa using gn);rw[getD_map dL d.ti i .bC [] gn] at r;obtain⟨b,eb,pO,_,sF⟩:=Kj r;rw[eb];w_fin;exact Df (bx.of (s _ _ pO)) λq hq=>kk _ _ (Al hq) (Vu upd_same sF)
  intro H6 ys s6 tH r2;rw[lC,UV] at r2;exists Df (bx.of tH) λt2 yu=>?_;w_fin;replace r2:Rp (upd H6 t2 (HO.tup ys)) FT 2 (.ref t2) (zA d.ti):=(r2.xH tH yu).any;have s62:=s6.trans (Al (o:=HO.tup ys) yu);replace B:=B.same s62;replace r1:=r1.same s62;have zN:=s62 _ _ hx5;generalize upd H6 t2 _=H7 at B zN r1 r2 ⊢;refine Gc zN T.cH.cl T.iX (by show 3<1000;decide) ?_;generalize ef:A9 "ties" (V.ref t2) _=f7;replace r1:=r1.ins (o:=HO.ins c.bT dx f7) zN;replace r2:=r2.ins (o:=HO.ins c.bT dx f7) zN;replace B:=B.put (o:=HO.ins c.bT dx f7);have hx8:upd H7 x (HO.ins c.bT dx f7) x=_:=upd_same;generalize upd H7 x _=H8 at B hx8 r1 r2 ⊢;subst ef;w_fin;obtain⟨m3,a3,vs3,wF,rfl,sE,_,rM,pO,wG⟩:=Ey (B.rp hx h3);cases wF;rw[Aa0] at rM;refine⟨a3,rfl,⟨_,bx.of sE⟩,λD hD=>?_⟩;refine A3 (m:=1) (G:=λi=>dT (d.td.getD i [])) (AH (bx.of sE) rfl) hD pO ?_ ?_
  .intro i H' R hi s kk;have gn:i<d.td.length:=by omega
   have r:=wG i (by simpa using gn);rw[getD_map dL d.td i .bC [] gn] at r;obtain⟨b,eb,pO,_,sF⟩:=Kj r;rw[eb];w_fin;exact Df (bx.of (s _ _ pO)) λq hq=>kk _ _ (Al hq) (Vu upd_same sF)
  intro H9 ys9 s9 hl9 r3;rw[rM,UV] at r3;exists Df (bx.of hl9) λt3 ht3=>?_;w_fin;replace r3:Rp (upd H9 t3 (HO.tup ys9)) FT 2 (.ref t3) (zA d.td):=(r3.xH hl9 ht3).any;have s93:=s9.trans (Al (o:=HO.tup ys9) ht3);replace B:=B.same s93;replace r1:=r1.same s93;replace r2:=r2.same s93;have yv:=s93 _ _ hx8;generalize upd H9 t3 _=HA at B yv r1 r2 r3 ⊢;refine Gc yv T.cH.cl T.fS (by show 4<1000;decide) ?_;generalize ef:A9 "treading" (V.ref t3) _=f9;replace r1:=r1.ins (o:=HO.ins c.bT dx f9) yv;replace r2:=r2.ins (o:=HO.ins c.bT dx f9) yv;replace r3:=r3.ins (o:=HO.ins c.bT dx f9) yv;replace B:=B.put (o:=HO.ins c.bT dx f9);have sG:upd HA x (HO.ins c.bT dx f9) x=_:=upd_same;generalize upd HA x _=HB at B sG r1 r2 r3 ⊢;subst ef;exists Df (bx.of (B _ _ h4 (GQ h4 hx (by intro z;cases z)))) λt4 ht4=>?_;w_fin;have r4:Rp (upd HB t4 (HO.tup (d.wa.map V.str))) FT 1 (.ref t4) (uP d.wa):=UQ upd_same (by have:=ok.h2;have:=ok.wl;omega);have sB:=Al (o:=HO.tup (d.wa.map V.str)) ht4;replace B:=B.same sB;replace r1:=r1.same sB;replace r2:=r2.same sB;replace r3:=r3.same sB;replace sG:=sB _ _ sG;generalize upd HB t4 _=HC at B sG r1 r2 r3 r4 ⊢;refine Gc sG T.cH.cl T.iY (by show 5<1000;decide) ?_;generalize ef:A9 "warp" (V.ref t4) _=fC;replace r1:=r1.ins (o:=HO.ins c.bT dx fC) sG;replace r2:=r2.ins (o:=HO.ins c.bT dx fC) sG;replace r3:=r3.ins (o:=HO.ins c.bT dx fC) sG;replace r4:=r4.ins (o:=HO.ins c.bT dx fC) sG;replace B:=B.put (o:=HO.ins c.bT dx fC);have rN:upd HC x (HO.ins c.bT dx fC) x=_:=upd_same;generalize upd HC x _=HD at B rN r1 r2 r3 r4 ⊢;subst ef;exists Df (bx.of (B _ _ h5 (GQ h5 hx (by intro z;cases z)))) λt5 ht5=>?_;w_fin;have r5:Rp (upd HD t5 (HO.tup (d.we.map V.str))) FT 1 (.ref t5) (uP d.we):=UQ upd_same (by have:=ok.p2;have:=ok.fl;omega);have sD:=Al (o:=HO.tup (d.we.map V.str)) ht5;replace B:=B.same sD;replace r1:=r1.same sD;replace r2:=r2.same sD;replace r3:=r3.same sD;replace r4:=r4.same sD;replace rN:=sD _ _ rN;generalize upd HD t5 _=HE at B rN r1 r2 r3 r4 r5 ⊢;refine Gc rN T.cH.cl T.iZ (by show 6<1000;decide) ?_;generalize ef:A9 "weft" (V.ref t5) _=fE;replace r1:=r1.ins (o:=HO.ins c.bT dx fE) rN;replace r2:=r2.ins (o:=HO.ins c.bT dx fE) rN;replace r3:=r3.ins (o:=HO.ins c.bT dx fE) rN;replace r4:=r4.ins (o:=HO.ins c.bT dx fE) rN;replace r5:=r5.ins (o:=HO.ins c.bT dx fE) rN;replace B:=B.put (o:=HO.ins c.bT dx fE);have hxF:upd HD x (HO.ins c.bT dx fE) x=_:=upd_same;w_fin;subst ef;exact k _ B ⟨dx,_,_,_,_,_,upd_same,r1,r2,r3,r4,r5⟩
theorem Tg{c:Cs}{ws:List V}(ps:Parts H d ws)(ok:eG d)(h:∀H' x,Same H H'->H x=aV->Ux c.bT H' x d->Q (.ref x) H'):
  ∀x dx,H x=aV->H dx=aV->dx≠x->B8 c (.ref x::ws) (upd (upd H dx (.own x)) x (.ins c.bT dx [])) (λv H2=>v= .bC/\Q (.ref x) H2) E0:=by
 intro x dx hx iQ ne;have s0:=RF (o:=HO.ins c.bT dx []) (u:= .own x) hx iQ;exact⟨x,dx,ws,d,rfl,upd_same,ps.same s0,ok,λH' B at'=>⟨rfl,h H' x (λb o e=>B b o (s0 b o e) (Ba e hx)) hx at'⟩⟩
noncomputable def wI(d:Dr):Dt:= .tup [dN d.sh,dN d.tr,dL d.th,qM d.ti,qM d.td,dS d.wa,dS d.we]
noncomputable def F2(c:Cs):Sp:=λvs H Q _=>∃x d,vs=[.ref x]/\Ux c.bT H x d/\∀H' p,Same H H'->H p=aV->Rp H' (FN H) 3 (.ref p) (wI d)->Q (.ref p) H'
noncomputable abbrev Ew:Stmt:=BE (top 31) 1
theorem Ka:bz ["self"] ["self"] (Ah Ew):=by w_left
theorem JW(F:cR K "told" "Draft.told" Ew f fd)(T:Txt K mg c):bQ P w K mg base c6 1 f fd ["self"] (F2 c):=by
 tbr_iter (F.ok Ka)
 .obtain⟨x,d,rfl,⟨dx,v1,v2,v3,v4,v5,h0,h1,h2,h3,h4,h5⟩,k⟩:=h;obtain⟨a1,rfl,e1,b1⟩:=Q5 h1;obtain⟨m2,a2,zz,zM,rfl,e2,l2,b2,jL⟩:=ND h2;cases zM;obtain⟨m3,a3,vs3,wF,rfl,e3,l3,b3,wG⟩:=ND h3;cases wF;obtain⟨a4,rfl,e4,b4⟩:=Qi h4;obtain⟨a5,rfl,e5,b5⟩:=Qi h5;rw[Aa0] at l2 l3;refine⟨_,(Ae (Ao (AY (Aa (Jn (K:=K) (pv 0) rfl) (Aa (Jn (K:=K) (pv 0) rfl) (Aa (Au (Gm (K:=K)) rfl T.ow AR (Aa (Jn (K:=K) (pv 0) rfl) Ab)) (Aa (AD (UT (K:=K) (Jn (K:=K) (pv 0) rfl)) (λ_ _ _ _=>AC) (λ_ _ _ _=>(Au (Gm (K:=K)) rfl T.ow AR (Aa (pv 0) Ab)))) (Aa (AD (UT (K:=K) (Jn (K:=K) (pv 0) rfl)) (λ_ _ _ _=>AC) (λ_ _ _ _=>(Au (Gm (K:=K)) rfl T.ow AR (Aa (pv 0) Ab)))) (Aa (Au (Gm (K:=K)) rfl T.ow AR (Aa (Jn (K:=K) (pv 0) rfl) Ab)) (Aa (Au (Gm (K:=K)) rfl T.ow AR (Aa (Jn (K:=K) (pv 0) rfl) Ab)) Ab)))))))))),?_⟩;exists _,_,_,_,_,rfl,h0,T.cH.cl,T.gR,rfl;exists _,_,_,_,_,rfl,h0,T.cH.cl,T.fR,rfl;exists _,_,_,_,_,rfl,h0,T.cH.cl,T.fH,rfl;exists Do (dj.of e1) λp1 sI=>?_;w_fin;have s1:=Al (o:=HO.lst (d.th.map nV)) sI;have r1:Rp (upd H p1 (HO.lst (d.th.map nV))) (FN H) 2 (.ref p1) (dL d.th):=JK upd_same sI b1;generalize upd H p1 _=H1 at s1 r1 ⊢;refine⟨_,_,_,_,_,rfl,s1 _ _ h0,T.cH.cl,T.iX,rfl,?_⟩;exists ⟨a2,rfl,⟨_,dj.of (s1 _ _ e2)⟩,λD2 hD2=>?_⟩;refine A3 (m:=1) (G:=λi=>dL (d.ti.getD i [])) (OW (dj.of (s1 _ _ e2)) rfl) hD2 b2 ?_ ?_
  .intro i H' R hi s kk;have gn:i<d.ti.length:=by omega
   have r:=jL i (by simpa using gn);rw[getD_map dT d.ti i .bC [] gn] at r;obtain⟨b,eb,pO,sF⟩:=Q5 r;rw[eb];w_fin;exact Do (dj.of (s _ _ (s1 _ _ pO))) λq hq=>kk _ _ (Al hq) (JK upd_same hq sF)
  intro H2 ys2 s2 lC r2;rw[l2,UU] at r2;replace r2:Rp H2 (FN H) 2 (.ref D2) (qM d.ti):=r2.imp λa ha=>s1.free ha;have s02:=s1.trans s2;exists _,_,_,_,_,rfl,s02 _ _ h0,T.cH.cl,T.fS,rfl;exists ⟨a3,rfl,⟨_,dj.of (s02 _ _ e3)⟩,λD3 hD3=>?_⟩;refine A3 (m:=1) (G:=λi=>dL (d.td.getD i [])) (OW (dj.of (s02 _ _ e3)) rfl) hD3 b3 ?_ ?_
  .intro i H' R hi s kk;have gn:i<d.td.length:=by omega
   have r:=wG i (by simpa using gn);rw[getD_map dT d.td i .bC [] gn] at r;obtain⟨b,eb,pO,sF⟩:=Q5 r;rw[eb];w_fin;exact Do (dj.of (s _ _ (s02 _ _ pO))) λq hq=>kk _ _ (Al hq) (JK upd_same hq sF)
  intro H3 ys3 s3 rM r3;rw[l3,UU] at r3;replace r3:Rp H3 (FN H) 2 (.ref D3) (qM d.td):=r3.imp λa ha=>s02.free ha;have s03:=s02.trans s3;exists _,_,_,_,_,rfl,s03 _ _ h0,T.cH.cl,T.iY,rfl;exists Do (dj.of (s03 _ _ e4)) λp4 rf=>?_;w_fin;have s4:=Al (o:=HO.lst (d.wa.map V.str)) rf;have r4:Rp (upd H3 p4 (HO.lst (d.wa.map V.str))) (FN H) 2 (.ref p4) (dS d.wa):=QY upd_same (s03.free rf) b4;generalize upd H3 p4 _=H4 at s4 r4 ⊢;have s04:=s03.trans s4;refine⟨_,_,_,_,_,rfl,s04 _ _ h0,T.cH.cl,T.iZ,rfl,?_⟩;exists Do (dj.of (s04 _ _ e5)) λp5 tT=>?_;w_fin;have s5:=Al (o:=HO.lst (d.we.map V.str)) tT;have r5:Rp (upd H4 p5 (HO.lst (d.we.map V.str))) (FN H) 2 (.ref p5) (dS d.we):=QY upd_same (s04.free tT) b5;generalize upd H4 p5 _=H5 at s5 r5 ⊢;have s05:=s04.trans s5;intro p hp;have s6:=Al (o:=HO.tup [nV d.sh,nV d.tr, .ref p1, .ref D2, .ref D3, .ref p4, .ref p5]) hp;refine k _ p (s05.trans s6) (s05.free hp) (K4 upd_same (.int _) (.int _) ?_ ?_ ?_ ?_ ?_)
  .exact(r1.same (s2.trans (s3.trans (s4.trans s5)))).same s6
  .exact(r2.same (s3.trans (s4.trans s5))).same s6
  .exact(r3.same (s4.trans s5)).same s6
  .exact(r4.same s5).same s6
  .exact r5.same s6
noncomputable def CD(x k:Int):Int:=(x%1000000007+7919*k+13)*(x%1000000007+7919*k+13)%1000000007*48271%2147483647
noncomputable def By:Sp:=λvs H Q _=>∃x k:Int,vs=[.int x, .int k]/\(0<=k/\k<=1000)/\Q (.int (CD x k)) H
noncomputable abbrev EF:Stmt:=top 56
theorem i7:bz ["_law_cell","_law_k"] ["_law_cell","_law_k"] (Ah EF):=by w_left
theorem J8(F:cR K "_law_mixed" "_law_mixed" EF f fd)(T:Txt K mg c):bQ P w K mg base c6 1 f fd ["_law_cell","_law_k"] By:=by
 tbr_iter (F.ok i7)
 .obtain⟨x,k,rfl,hk,q⟩:=h;refine⟨_,(Ac (Am 0 i7.nd (Aj Av (Aj Av (Aj A1 (pv 0) Ad) (Aj Ep Ad (pv 1))) Ad))
   (Ae (Ao (Aj A1 (Aj Ep (Aj A1 (Aj Ep (pv 0) (pv 0)) Ad) Ad) Ad)))),?_⟩
  have b1:=Af1 x (show (1000000007:Int)≠0 by decide);have b2:=Af5 x (show (0:Int)<1000000007 by decide);exists AE (by decide) ?_;exists AE (.inl ⟨by decide,by decide⟩) ?_;exists AE (.inl ⟨?_,?_⟩) ?_
  .show -(2 ^ 64)<x%1000000007+7919*k+13;omega
  .show x%1000000007+7919*k+13<2 ^ 64;omega
  exists AE (by decide) ?_;exists AE (.inr ⟨by decide,by decide⟩) ?_;exists AE (by decide) ?_;exact q
noncomputable def RL(n:Nat)(f:Int):Nat:=max 1 (min 60 (Ai7 f (n:Nat) 2).toNat)
noncomputable def F7(K:aU):Sp:=λvs H Q _=>∃(a:Addr) (ns:List Int) (f:Int),vs=[.ref a, .int f]/\bx K H a (ns.map V.int)/\ns.length<=63/\0<=f/\f<=1/\∀H' p (ms:List Int),Same H H'->H p=aV->H' p=aS (.lst (ms.map V.int))->1<=ms.length->ms.length<=60/\ms.length<=ns.length+1/\ms.length=RL ns.length f->Q (.ref p) H'
theorem VA(f0:0<=f)(h:i<(Ai7 f (n:Nat) 2).toNat):f+i*2<n:=by
 unfold Ai7 at h;rw[bS (by decide)] at h;split at h
 .omega
 .simp at h
noncomputable abbrev Em:Stmt:=top 59
theorem i8:bz ["_law_script","_law_first","_law_found"] ["_law_script","_law_first"] (Ah Em):=by w_left
theorem Ke(F:cR K "_law_cells" "_law_cells" Em f fd)(T:Txt K mg c):bQ P w K mg base c6 1 f fd ["_law_script","_law_first"] (F7 K):=by
 tbr_iter (F.ok i8)
 .obtain⟨a,ns,f,rfl,sa,hn,f0,f1,k⟩:=h;have hu:=hr.cC;refine⟨_,(Ac (Am 2 i8.nd (AM (BY (K:=K)) (AD (PX rfl T.ow (Aa (pv 1) (Aa (Ai (AF (K:=K)) rfl T.ow Aj3 (Aa (pv 0) Ab)) (Aa Ad Ab)))) (λ_ _ _ _=>AC) (λ_ _ _ _=>(AS (Bt (K:=K)) (pv 1) (pv 0) (λ_ _=>rfl)))) A5 (AJ Ad)))
   (Ae (Ao (Aj (Bs (K:=K)) (pv 2) (Aj Hg (As (Aa (pv 1) Ab)) (Au NF rfl T.ow Ar3 (Aa (Bw (DZ hu (K:=K)) (pv 2) (As Ab) (Ap _)) Ab))))))),?_⟩
  exists Ax sa ?_;exists ⟨_,_,_,rfl,⟨by omega,by omega⟩,⟨by omega,by rw[Aa0];omega⟩,⟨by decide,by decide⟩,by decide,λD hD=>?_⟩;rw[Aa0];have hb:∀i:Nat,i<(Ai7 f (ns.length:Nat) 2).toNat->f+i*2<ns.length:=λi hi=>VA f0 hi;have hsz:(Ai7 f (ns.length:Nat) 2).toNat<=63:=by
   have:=Qq f (ns.length:Nat) 2 (by decide);omega
  have hce:RL ns.length f=max 1 (min 60 (Ai7 f (ns.length:Nat) 2).toNat):=rfl;generalize (Ai7 f (ns.length:Nat) 2).toNat=n at hb hsz hce ⊢;refine Ed (G:=λi=>ns.getD (f+i*2).toNat 0) (Oc rfl) hD (by omega) ?_ ?_
  .intro i H' R hi s kk;have:=hb i hi;exists AU (gZ.same (tp:=false) sa s) (SM (by omega) (by omega)) ?_;exact kk H' (Same.refl _)
  intro H1 s1 wH;have ya:n<=ns.length:=by
   rcases Ai2 n with z | z
   .omega
   .have:=hb (n - 1) (by omega);omega
  have lms:((Ab7 n).map λi:Nat=>ns.getD (f+i*2).toNat 0).length<=ns.length/\((Ab7 n).map λi:Nat=>ns.getD (f+i*2).toNat 0).length=n:=by simpa using ya
  generalize (Ab7 n).map (λi:Nat=>ns.getD (f+i*2).toNat 0)=ms at wH lms;exists Bo (bx.of wH) λq hq=>?_;rw[JB (by decide), <-Ap3];have s2:=Al (o:=HO.lst ((ms.take (60:Int).toNat).map V.int)) hq;have h2:upd H1 q (HO.lst ((ms.take (60:Int).toNat).map V.int)) q=_:=upd_same;have s12:=s1.trans s2;generalize upd H1 q _=H2 at s12 h2 ⊢;have hms:(ms.take (60:Int).toNat).length<=60/\(ms.take (60:Int).toNat).length<=ns.length/\(ms.take (60:Int).toNat).length=min 60 n:=by rw[Ac5,lms.2];exact⟨Nat.min_le_left _ _,Ab4 (Nat.min_le_right _ _) ya,rfl⟩
  generalize ms.take (60:Int).toNat=ts at h2 hms ⊢;w_fin;intro p hp;w_fin;have s3:=Al (o:=HO.lst [V.int f]) hp;have h3:upd H2 p (HO.lst [V.int f]) p=aS (.lst [V.int f]):=upd_same;have s13:=s12.trans s3;replace h2:=s3 _ _ h2;generalize upd H2 p _=H3 at s13 h2 h3 ⊢;intro p4 rf;w_fin;have s4:=Al (o:=HO.lst []) rf;have s14:=s13.trans s4;replace h2:=s4 _ _ h2;replace h3:=s4 _ _ h3;have h4:upd H3 p4 (HO.lst []) p4=_:=upd_same;generalize upd H3 p4 _=H4 at s14 h2 h3 h4 ⊢;refine TV (bs:=[]) (bx.of h2) (bx.of h4) ?_;exists _,rfl;have kB:(0:Int)<=(if decide (ts=[])=true then 1 else 0)/\(if decide (ts=[])=true then (1:Int) else 0)<=1:=by split <;> decide
  refine Hv h3 kB.1 (by omega) (by simp) λp5 tT=>?_;w_fin;have e5:(Ad1 (if decide (ts=[])=true then (1:Int) else 0).toNat [V.int f]).flatten=(if ts=[] then [f] else []).map V.int:=by
   by_cases z:ts=[]
   .simp[z]
   .simp[z]
  rw[e5];have s5:=Al (o:=HO.lst ((if ts=[] then [f] else []).map V.int)) tT;have h5:upd H4 p5 (HO.lst ((if ts=[] then [f] else []).map V.int)) p5=_:=upd_same;replace h2:=s5 _ _ h2;have s15:=s14.trans s5;generalize upd H4 p5 _=H5 at s15 h2 h5 ⊢;have hlen:1<=(ts++(if ts=[] then [f] else [])).length/\(ts++(if ts=[] then [f] else [])).length<=60/\(ts++(if ts=[] then [f] else [])).length<=ns.length+1/\(ts++(if ts=[] then [f] else [])).length=RL ns.length f:=by
   by_cases z:ts=[]
   .rw[z] at hms;simp[z,hce];simp at hms;omega
   .have:1<=ts.length:=by
     cases ts with
     | nil=>exact bV rfl z
     | cons _ _=>simp
    simp[z];omega
  refine Dh (bx.of h2) (bx.of h5) (by have:=hlen.2.1;rw[Aa5] at this;simp only[Aa0];omega) λp6 wJ=>?_;rw[<-Ac2];exact k _ p6 _ (s15.trans (Al wJ)) (s15.free wJ) upd_same hlen.1 hlen.2
noncomputable def Ce(m w:Nat):List Nat:=((Ab7 w).filter m.testBit).map (· + 1)
theorem Fv(p:Nat->Bool):∀w,Lc w (((Ab7 w).filter p).map (· + 1)):=by
 intro w;have key:∀w,(∀n∈((Ab7 w).filter p).map (· + 1),1<=n/\n<=w)/\(((Ab7 w).filter p).map (· + 1)).Pairwise (· < ·):=by
  intro w;refine⟨λn hn=>?_,?_⟩
  .obtain⟨k,hk,rfl⟩:=Ac4.mp hn;have:=Ae4.mp (Ah0.mp hk).1;omega
  .rw[List.pairwise_map];exact((List.pairwise_lt_range).filter p).imp (λh=>Nat.succ_lt_succ h)
 obtain⟨k1,k2⟩:=key w;generalize ((Ab7 w).filter p).map (· + 1)=ns at k1 k2;intro i hi;have e:ns.getD i 0=ns[i]:=by simp[Aa2,hi]
 have m1:=k1 _ (Ah6 hi);rw[e];refine⟨?_,m1.2⟩;cases i with
 | zero=>simpa using m1.1
 | succ i=>
  have e2:(0::ns).getD (i+1) 0=ns[i]:=by
   show ns.getD i 0=ns[i];simp[Aa2,(show i<ns.length by omega)]
  rw[e2];exact(List.pairwise_iff_getElem.mp k2) i (i+1) (by omega) hi (by omega)
noncomputable def CG:Sp:=λvs H Q _=>∃m w:Nat,vs=[nV m,nV w]/\w<=100/\∀H' p,Same H H'->H p=aV->H' p=aS (.lst ((Ce m w).map nV))->Q (.ref p) H'
theorem T4(m i:Nat):decide ((((m >>> i) &&& 1:Nat):Int)=1)=m.testBit i:=by
 have h:((m >>> i) &&& 1)=(m.testBit i).toNat:=by
  rw[Nat.and_one_is_mod,Nat.shiftRight_eq_div_pow,MM.rY]
 rw[h];cases m.testBit i <;> rfl
noncomputable abbrev De:Stmt:=top 60
theorem Il:bz ["_law_mask","_law_most"] ["_law_mask","_law_most"] (Ah De):=by w_left
theorem Io(F:cR K "_law_numbers" "_law_numbers" De f fd)(T:Txt K mg c):bQ P w K mg base c6 1 f fd ["_law_mask","_law_most"] CG:=by
 tbr_iter (F.ok Il)
 .obtain⟨m,w,rfl,hw,k⟩:=h;refine⟨_,(Ae (Ao (AD (DS rfl T.ow (Aa (pv 1) Ab)) (λ_ _ _ _=>(GR (Ak Bb (Aj VM (Aj Vp (pv 1) (pv 0)) Ad) Ad (Ap _)))) (λ_ _ _ _=>(Aj Av (pv 0) Ad))))),?_⟩;exists ⟨_,rfl,by omega,by omega,λD hD=>?_⟩;rw[Ad3];refine Jt (p:=m.testBit) (G:=λi=>(i:Int)+1) (Gp rfl) hD (by omega) ?_ ?_ ?_
  .intro i H' R hi s kk;exists AE (by show (0:Int)<=_;omega) ?_;w_fin;have e:((m:Nat):Int) / 2 ^ (((i:Nat):Int)).toNat=((m >>> i:Nat):Int):=by
    rw[Ad3,Nat.shiftRight_eq_div_pow];push_cast;rfl
   rw[e,show (1:Int)=((1:Nat):Int) from rfl,bA];w_fin;rw[show (((1:Nat):Int))=(1:Int) from rfl,T4];exact kk H' (Same.refl _)
  .intro i H' R hi hp s kk;w_fin;exact kk H' (Same.refl _)
  .intro H' s hl;refine k H' D s hD ?_;rw[hl];unfold Ce;rw[Ae2,Ae2];rfl
noncomputable abbrev Wb(i:Int):Str:=⟨#[97+i.toNat]⟩
theorem U8:∀j:Nat,j<26->("abcdefghijklmnopqrstuvwxyz":Str).cps.toList[j]?=aS (97+j):=by decide +kernel
theorem O2{i:Int}(h0:0<=i)(h1:i<26):mK ("abcdefghijklmnopqrstuvwxyz":Str).cps.toList i=aS (97+i.toNat):=by
 obtain⟨j,rfl⟩:∃j:Nat,i=j:=⟨i.toNat,by omega⟩;rw[Ad3];exact AA (U8 j (by omega))
theorem SY:∀j:Nat,j<26->((⟨#[97+j]⟩:Str).length == 1&& !(Ak0 jI ⟨#[97+j]⟩ 0 jI.length 1).isEmpty)=true:=by decide +kernel
theorem Rz{i:Int}(h0:0<=i)(h1:i<26):KA (Wb i):=by
 have h:=SY i.toNat (by omega);simp only[Ab5,beq_iff_eq] at h;exact⟨h.1,h.2⟩
theorem Nr(s:Nat):(0:Int)<1*2 ^ ((s:Nat):Int).toNat:=by
 rw[Ad3,Np];have:=AB4 s;omega
theorem Pc(x:Int)(s:Nat):x%(1*2 ^ ((s:Nat):Int).toNat)=(((x%(2 ^ s:Nat)).toNat:Nat):Int):=by
 rw[Ad3,Np];have hp:=AB4 s;have:=Af1 x (show ((2 ^ s:Nat):Int)≠0 by omega);omega
noncomputable def FZ(K:aU):Sp:=λvs H Q _=>∃(a:Addr) (ns:List Int) (m:Nat),vs=[.ref a,nV m]/\bx K H a (ns.map V.int)/\ns.length<=63/\1<=m/\m<=16/\∀H' p d,Same H H'->H p=aV->Rp H' (FN H) 3 (.ref p) (wI d)->eG d->Q (.ref p) H'
noncomputable abbrev Eo:Stmt:=top 61
theorem bW:bz ["_law_script","_law_most","_law_whole","_law_shafts","_law_treadles","_law_letters","_law_ends","_law_picks_here","_law_ties","_law_treading","_law_warp","_law_weft"] ["_law_script","_law_most"] (Ah Eo):=by w_left
theorem JZ(F:cR K "_law_draft" "_law_draft" Eo f fd)(T:Txt K mg c)(bD:bF P w K mg base "_law_mixed" 1 ["_law_cell","_law_k"] By)(eY:bF P w K mg base "_law_cells" 1 ["_law_script","_law_first"] (F7 K))(cI:bF P w K mg base "_law_numbers" 1 ["_law_mask","_law_most"] CG):bQ P w K mg base c6 2 f fd ["_law_script","_law_most"] (FZ K):=by
 tbr_iter (F.ok bW)
 .obtain⟨a,ns,m,rfl,sa,hn,m1,m2,k⟩:=h;refine⟨_,(Ac (Am 2 bW.nd (Ai (UE (K:=K)) rfl T.ow boot_sum (Aa (Je (K:=K) (L4 (K:=K) rfl T.ow (Aa (pv 0) Ab)) (λ_ _ _ _=>AC) (λ_ _ _ _=>(Aj Ep (Aj A1 (pv 1) Ad) (Aj Av (pv 0) Ad)))) Ab)) rfl (AF3 rfl))
   (Ac (Am 3 bW.nd (Aj Av Ad (Aj A1 (Ag bD hr (Aa (pv 2) (Aa Ad Ab))) (pv 1))) rfl (AF3 rfl))
   (Ac (Am 4 bW.nd (Aj Av Ad (Aj A1 (Ag bD hr (Aa (pv 2) (Aa Ad Ab))) (pv 1))) rfl (AF3 rfl))
   (Ac (Am 5 bW.nd Af rfl (AF3 rfl))
   (Ac (Am 6 bW.nd (Ag eY hr (Aa (pv 0) (Aa Ad Ab))))
   (Ac (Am 7 bW.nd (Ag eY hr (Aa (pv 0) (Aa Ad Ab))))
   (Ac (C0 (i:=8) bW.nd rfl (Ao0 rfl) (DS rfl T.ow (Aa (pv 4) Ab)) (λ_ _ _ _=>AC) (λ_ _ _ _=>(Ag cI hr (Aa (Aj A1 (Ag bD hr (Aa (pv 2) (Aa (Aj Av Ad (pv 0)) Ab))) (Aj Og Ad (pv 1))) (Aa (pv 1) Ab)))))
   (Ac (C0 (i:=9) bW.nd rfl (Ao0 rfl) (Bp (K:=K) (pv 7)) (λ_ _ _ _=>AC) (λ_ _ _ _=>(Ag cI hr (Aa (Aj A1 (pv 0) (Aj Og Ad (pv 1))) (Aa (pv 1) Ab)))))
   (Ac (Aw (Ak Bb (Aj A1 (Ag bD hr (Aa (pv 2) (Aa Ad Ab))) Ad) Ad (Ap _)) (Ae (C0 (i:=9) bW.nd rfl (Ao0 rfl) (Bp (K:=K) (pv 7)) (λ_ _ _ _=>AC) (λ_ _ _ _=>(As (Aa (Aj Av Ad (Aj A1 (pv 0) (pv 1))) Ab))))) Aq)
   (Ac (C0 (i:=10) bW.nd rfl (Ao0 rfl) (Bp (K:=K) (pv 6)) (λ_ _ _ _=>AC) (λ_ _ _ _=>(AS JE (pv 1) (Aj A1 (Aj BZ (pv 0) Ad) (Aj Av Ad (Aj A1 (Ag bD hr (Aa (pv 2) (Aa Ad Ab))) Ad))) (λ_ _=>rfl))))
   (Ac (C0 (i:=11) bW.nd rfl (Ao0 rfl) (Bp (K:=K) (pv 7)) (λ_ _ _ _=>AC) (λ_ _ _ _=>(AS JE (pv 1) (Aj A1 (Aj BZ (pv 0) Ad) (Aj Av Ad (Aj A1 (Ag bD hr (Aa (pv 2) (Aa Ad Ab))) Ad))) (λ_ _=>rfl))))
   (Ae (Ao (AY (Aa (pv 3) (Aa (pv 4) (Aa (AD (Bp (K:=K) (pv 6)) (λ_ _ _ _=>AC) (λ_ _ _ _=>(Aj A1 (pv 0) (Aj Av (pv 1) Ad)))) (Aa (pv 8) (Aa (pv 9) (Aa (pv 10) (Aa (pv 11) Ab))))))))))))))))))))),?_⟩
  exists ⟨a,rfl,⟨_,sa⟩,λD0 hD0=>?_⟩;refine Ed (G:=λi=>ns.getD i 0%1000000007*((i:Int)+1)) (Qw sa rfl rfl) hD0 (by rw[Aa0];omega) ?_ ?_
  .intro i H' R hi s kk;have b1:=Af1 (ns.getD i 0) (show (1000000007:Int)≠0 by decide);have b2:=Af5 (ns.getD i 0) (show (0:Int)<1000000007 by decide);rw[DY hi];exists AE (by decide) ?_;exists AE (.inl ⟨by omega,by omega⟩) ?_;exact kk H' (Same.refl _)
  intro H1 s1 wH;exists R0 (bx.of wH) ?_;generalize ((Ab7 (ns.map V.int).length).map λi:Nat=>ns.getD i 0%1000000007*((i:Int)+1)).sum=W;exists ⟨W,1,rfl,⟨by decide,by decide⟩,?_⟩;exists AE (by show (0:Int)<(m:Nat);omega) ?_;w_fin;obtain⟨sN,es,sN1,sN2⟩:∃s:Nat,1+CD W 1%(m:Nat)=(s:Nat)/\1<=s/\s<=16:=by
   have h0:=Af1 (CD W 1) (show ((m:Nat):Int)≠0 by omega);have h1:=Af5 (CD W 1) (show (0:Int)<(m:Nat) by omega);exact⟨(1+CD W 1%(m:Nat)).toNat,by omega,by omega,by omega⟩
  rw[es];refine⟨W,2,rfl,⟨by decide,by decide⟩,?_⟩;exists AE (by show (0:Int)<(m:Nat);omega) ?_;w_fin;obtain⟨tN,et,tN1,tN2⟩:∃s:Nat,1+CD W 2%(m:Nat)=(s:Nat)/\1<=s/\s<=16:=by
   have h0:=Af1 (CD W 2) (show ((m:Nat):Int)≠0 by omega);have h1:=Af5 (CD W 2) (show (0:Int)<(m:Nat) by omega);exact⟨(1+CD W 2%(m:Nat)).toNat,by omega,by omega,by omega⟩
  rw[et];refine⟨a,ns,0,rfl,s1.seq sa,hn,by decide,by decide,λH2 pE eE s2 hpE hE lE1 lE2=>?_⟩;w_fin;have s02:=s1.trans s2;refine⟨a,ns,1,rfl,s02.seq sa,hn,by decide,by decide,λH3 pP eP s3 hpP hP lP1 lP2=>?_⟩;w_fin;have s03:=s02.trans s3;replace hE:=s3 _ _ hE;refine⟨_,rfl,by omega,by omega,λD4 hD4=>?_⟩;rw[Ad3];refine A3 (m:=1) (G:=λi=>dL (Ce (CD W (3+(i:Int))%(2 ^ sN:Nat)).toNat sN)) (Gp rfl) hD4 (by omega) ?_ ?_
  .intro i H' R hi s kk;exists ⟨W,_,rfl,⟨by omega,by omega⟩,?_⟩;exists AE ⟨by omega,by omega,by decide⟩ ?_;exists AE (Nr sN) ?_;w_fin;rw[Pc];exact⟨_,sN,rfl,by omega,λH4 p4 s4 rf h4=>kk H4 _ s4 (JK h4 rf (by unfold Ce;rw[Aa0];exact Ab4 (AB3 _ _) (by simp;omega)))⟩
  intro H4 ys4 s4 tF r4;rw[LI] at r4;have s04:=s03.trans s4;replace r4:Rp H4 (FN H) 2 (.ref D4) _:=r4.imp λa ha=>s03.free ha;replace hE:=s4 _ _ hE;replace hP:=s4 _ _ hP;generalize eTI:((Ab7 tN).map λi:Nat=>Ce (CD W (3+(i:Int))%(2 ^ sN:Nat)).toNat sN)=TI at r4;have lTI:TI.length=tN:=by rw[<-eTI];simp
  have rTI:∀l∈TI,Lc sN l:=λl hl=>by
   rw[<-eTI] at hl;obtain⟨i,_,rfl⟩:=Ac4.mp hl;exact Fv _ sN
  exists ⟨pP,rfl,⟨_,bx.of hP⟩,λD5 wK=>?_⟩;refine A3 (m:=1) (G:=λi=>dL (Ce (eP.getD i 0%(2 ^ tN:Nat)).toNat tN)) (AH (bx.of hP) rfl) wK (by rw[Aa0];omega) ?_ ?_
  .intro i H' R hi s kk;rw[DY hi];exists AE ⟨by omega,by omega,by decide⟩ ?_;exists AE (Nr tN) ?_;w_fin;rw[Pc];exact⟨_,tN,rfl,by omega,λH4 p4 s4 rf h4=>kk H4 _ s4 (JK h4 rf (by unfold Ce;rw[Aa0];exact Ab4 (AB3 _ _) (by simp;omega)))⟩
  intro H5 ys5 s5 rX r5;rw[Aa0,LI] at r5;have s05:=s04.trans s5;replace r5:Rp H5 (FN H) 2 (.ref D5) _:=r5.imp λa ha=>s04.free ha;replace r4:=r4.same s5;replace hE:=s5 _ _ hE;replace hP:=s5 _ _ hP;walk_at "v";refine xJ (λσ' H6=>∃v9 TD,σ'=[aS (.ref a),aS (nV m),aS (.int W),aS (nV sN),aS (nV tN),aS (.str "abcdefghijklmnopqrstuvwxyz"),aS (.ref pE),aS (.ref pP),aS (.ref D4),aS v9,aV,aV]/\Same H5 H6/\Rp H6 (FN H) 2 v9 (qM TD)/\TD.length=eP.length/\∀l∈TD,Lc tN l) ?_ (λkey=>?_)
  .rintro σ' H6 ⟨v9,TD,rfl,s6,r9,lTD,rTD⟩;have s06:=s05.trans s6;replace r4:=r4.same s6;replace hE:=s6 _ _ hE;replace hP:=s6 _ _ hP;exists ⟨pE,rfl,⟨_,bx.of hE⟩,λD7 hD7=>?_⟩;have bm:∀k:Int,(0:Int)<1+CD W k%26/\1+CD W k%26<=26:=λk=>by
    have h0:=Af1 (CD W k) (show (26:Int)≠0 by decide);have h1:=Af5 (CD W k) (show (0:Int)<26 by decide);omega
   have bq:∀(x k:Int),0<=x%(1+CD W k%26)/\x%(1+CD W k%26)<26:=λx k=>by
    have h:=bm k;have h0:=Af1 x (show (1+CD W k%26)≠0 by omega);have h1:=Af5 x h.1;omega
   refine A3 (m:=0) (G:=λi=> .str (Wb (eE.getD i 0 / 17%(1+CD W 41%26)))) (AH (bx.of hE) rfl) hD7 (by rw[Aa0];omega) ?_ ?_
   .intro i H' R hi s kk;rw[DY hi];exists AE ⟨by decide,by decide⟩ ?_;exists ⟨W,41,rfl,⟨by decide,by decide⟩,?_⟩;exists AE (by decide) ?_;exists AE (bm 41).1 ?_;have:=bq (eE.getD i 0 / 17) 41;refine JD (by decide) (O2 this.1 this.2) ?_;exact kk H' _ (Same.refl _) (.str _)
   intro H7 ys7 s7 hl7 r7;rw[Aa0,NT] at r7;have s07:=s06.trans s7;replace r7:Rp H7 (FN H) 2 (.ref D7) _:=(r7.imp λa ha=>s06.free ha).up (by decide);replace r4:=r4.same s7;replace r9:=r9.same s7;replace hE:=s7 _ _ hE;replace hP:=s7 _ _ hP;exists ⟨pP,rfl,⟨_,bx.of hP⟩,λD8 hD8=>?_⟩;refine A3 (m:=0) (G:=λi=> .str (Wb (eP.getD i 0 / 70000%(1+CD W 42%26)))) (AH (bx.of hP) rfl) hD8 (by rw[Aa0];omega) ?_ ?_
   .intro i H' R hi s kk;rw[DY hi];exists AE ⟨by decide,by decide⟩ ?_;exists ⟨W,42,rfl,⟨by decide,by decide⟩,?_⟩;exists AE (by decide) ?_;exists AE (bm 42).1 ?_;have:=bq (eP.getD i 0 / 70000) 42;refine JD (by decide) (O2 this.1 this.2) ?_;exact kk H' _ (Same.refl _) (.str _)
   intro H8 ys8 s8 hl8 r8;rw[Aa0,NT] at r8;have s08:=s07.trans s8;replace r8:Rp H8 (FN H) 2 (.ref D8) _:=(r8.imp λa ha=>s07.free ha).up (by decide);replace r4:=r4.same s8;replace r9:=r9.same s8;replace r7:=r7.same s8;replace hE:=s8 _ _ hE;exists ⟨pE,rfl,⟨_,bx.of hE⟩,λDA hDA=>?_⟩;refine A3 (m:=0) (G:=λi=>dN (eE.getD i 0%((sN+1:Nat):Int)).toNat) (AH (bx.of hE) rfl) hDA (by rw[Aa0];omega) ?_ ?_
   .intro i H' R hi s kk;rw[DY hi];exists AE (by show (0:Int)<_;omega) ?_;have h0:=Af1 (eE.getD i 0) (show ((sN:Nat):Int)+1≠0 by omega);have e:eE.getD i 0%(((sN:Nat):Int)+1)=(((eE.getD i 0%((sN+1:Nat):Int)).toNat:Nat):Int):=by
     rw[show ((sN+1:Nat):Int)=((sN:Nat):Int)+1 by omega];omega
    rw[e];exact kk H' _ (Same.refl _) (.int _)
   intro HA ysA sA hlA rA;rw[Aa0,Vg] at rA;have s0A:=s08.trans sA;replace rA:Rp HA (FN H) 2 (.ref DA) _:=(rA.imp λa ha=>s08.free ha).up (by decide);replace r4:=r4.same sA;replace r9:=r9.same sA;replace r7:=r7.same sA;replace r8:=r8.same sA;w_fin;intro p hp;have sB:=Al (o:=HO.tup [nV sN,nV tN, .ref DA, .ref D4,v9, .ref D7, .ref D8]) hp;refine k _ p ⟨sN,tN,_,TI,TD,_,_⟩ (s0A.trans sB) (s0A.free hp) (K4 upd_same (.int _) (.int _) (rA.same sB) (r4.same sB) (r9.same sB) (r7.same sB) (r8.same sB)) ?_;exact {
    s1:=sN1,s2:=sN2,t1:=tN1,t2:=tN2
    h1:=by simpa using lE1
    h2:=by simpa using lE2.1
    hs:=λn hn=>by
     obtain⟨i,_,rfl⟩:=Ac4.mp hn;have h0:=Af1 (eE.getD i 0) (show ((sN+1:Nat):Int)≠0 by omega);have h1:=Af5 (eE.getD i 0) (show (0:Int)<((sN+1:Nat):Int) by omega);show _<=sN;omega
    il:=lTI,ir:=rTI
    p1:=by show 1<=TD.length;omega
    p2:=by show TD.length<=60;omega
    pr:=rTD
    wl:=by simp
    wc:=λz hz=>by
     obtain⟨i,_,rfl⟩:=Ac4.mp hz;exact Rz (bq _ 41).1 (bq _ 41).2
    fl:=by simp[lTD]
    fc:=λz hz=>by
     obtain⟨i,_,rfl⟩:=Ac4.mp hz;exact Rz (bq _ 42).1 (bq _ 42).2 }
  .exists ⟨W,40,rfl,⟨by decide,by decide⟩,?_⟩;exists AE (by decide) ?_;exists Az (λh0=>?_) (λh0=>?_)
   .exists ⟨pP,rfl,⟨_,bx.of hP⟩,λD6 tU=>?_⟩;refine A3 (m:=1) (G:=λi=>dL [(1+eP.getD i 0%(tN:Nat)).toNat]) (AH (bx.of hP) rfl) tU (by rw[Aa0];omega) ?_ ?_
    .intro i H' R hi s kk;rw[DY hi];exists AE (by show (0:Int)<(tN:Nat);omega) ?_;w_fin;intro q hq;have h0:=Af1 (eP.getD i 0) (show ((tN:Nat):Int)≠0 by omega);refine kk _ _ (Al hq) (JK ?_ hq (by simp));rw[upd_same];show aS (HO.lst [V.int (1+eP.getD i 0%(tN:Nat))])=aS (HO.lst [V.int (((1+eP.getD i 0%(tN:Nat)).toNat:Nat):Int)]);congr 4;omega
    .intro H6 ys6 s6 tH r6;rw[Aa0,LI (λi=>[(1+eP.getD i 0%(tN:Nat)).toNat])] at r6;refine Ox ?_;refine key _ _ ⟨_,_,rfl,s6,r6.imp λa ha=>s05.free ha,by simp,λl hl=>?_⟩;obtain⟨i,_,rfl⟩:=Ac4.mp hl;have h0:=Af1 (eP.getD i 0) (show ((tN:Nat):Int)≠0 by omega);have h1:=Af5 (eP.getD i 0) (show (0:Int)<(tN:Nat) by omega);intro j hj;have hj:j=0:=by simpa using hj
     subst hj;show 0+1<=(1+eP.getD i 0%(tN:Nat)).toNat/\(1+eP.getD i 0%(tN:Nat)).toNat<=tN;omega
   .refine OT ?_;refine key _ _ ⟨_,_,rfl,Same.refl _,r5,by simp,λl hl=>?_⟩;obtain⟨i,_,rfl⟩:=Ac4.mp hl;exact Fv _ tN
noncomputable abbrev Eb(gs:List Str):Str->Bool:=λz=>L2.rF (.str z) (gs.map V.str)
theorem bP.same(s:bP (λ_=>False) H H'):Same H H':=λb o e=>s.st b o e id
theorem LG{as bs:List Str}(c:bx K H l (as.map V.str))(d:bx K H p (bs.map V.str))(h:Q (.bl (!decide (as=bs))) H):MW K true (.ref l) (.ref p) H Q:=
 ⟨l,p,_,_,rfl,rfl,c,d,by simp[Bx],by simp[Bx],by rw[Kv];exact h⟩
noncomputable abbrev fU(t:Nat):Str:=toString ((t:Nat):Int)++nM
noncomputable def S8:List Str:=(Ab7 59).map λi=>fU (i+2)
noncomputable def qp(z:Str):Nat:=match fV z with | some (aS t)=>t | _=>0
noncomputable def MB(z:Str):Str:=Az1 z aV (aS ((z.length:Int) - 1))
noncomputable def XB(z:Str):Bool:=if (MB z).length=0\/2<(MB z).length\/(MB z).cps.toList.getD 0 0=48 then decide (qp z=0) else
 (MB z).cps.toList.all (λc=> !(Ak0 "0123456789" ⟨#[c]⟩ 0 (Am3 "0123456789") 1).isEmpty)&&match Aq2 (MB z) with | some n=>decide ((if 2<=n/\n<=60 then n else 0)=(qp z:Int)) | none=>false
theorem QG:∀z∈S8,XB z=true:=by decide +kernel
theorem Wl:∀z∈S8,z.length<=3:=by decide +kernel
theorem Uv:∀z∈S8,(MB z).length<=3:=by decide +kernel
noncomputable def DF(K:aU):Sp:=λvs H Q _=>∃z:Str,vs=[.str z]/\z∈S8/\∀H',Same H H'->Q (nV (qp z)) H'
noncomputable abbrev El:Stmt:=top 68
theorem i9:bz ["_law_word","_law_figures"] ["_law_word"] (Ah El):=by w_left
theorem Kd(F:cR K "_law_times" "_law_times" El f fd)(T:Txt K mg c):bQ P w K mg base c6 1 f fd ["_law_word"] (DF K):=by
 tbr_iter (F.ok i9)
 .obtain⟨z,rfl,hz,k⟩:=h;have hu:=hr.cC;refine⟨_,(Ac (Am 1 i9.nd (AM Ru (pv 0) A5 (AJ (Aj FE (Ai (AF (K:=K)) rfl T.ow Aj3 (Aa (pv 0) Ab)) Ad))))
   (Ac (Aw (PW.pt (Dm (Ak Bb (pv 1) Af (Ap _)) (Dm (Ak CI (Ai (AF (K:=K)) rfl T.ow Aj3 (Aa (pv 1) Ab)) Ad (Ap _)) (Cg (Ak Bb (AS JE (pv 1) Ad (λ_ _=>rfl)) Af (Ap _)))))) (Ae (Ao Ad)) Aq)
   (Ac (Aw (Ak (Rn hu (K:=K)) (AD (N8 (pv 1)) (λ_ _ _ _=>(GR (Ak Hb (pv 0) Af (by with_unfolding_all rfl)))) (λ_ _ _ _=>(pv 0))) (As Ab) (Ap _)) (Ae (Ao Ad)) Aq)
   (Ae (Ao (C1 (Qh IK IK Ad (Au AX rfl T.ow Ar3 (Aa (pv 1) Ab)) Ad) (Au AX rfl T.ow Ar3 (Aa (pv 1) Ab)) Ad)))))),?_⟩
  w_fin;have hl:=Wl z hz;have hc:=QG z hz;unfold XB at hc;refine EB (Ab4 hl (by decide)) ?_;exists Sl (Ab4 hl (by decide)) ?_;change AN 1 (.str (MB z)) _ _ _;have hy:=Uv z hz;generalize MB z=y at hc hy ⊢;have hyl:y.cps.toList.length=y.length:=by simp[Am3]
  have no:(y.length=0\/2<y.length\/y.cps.toList.getD 0 0=48)->∀H',Same H H'->Q (.int 0) H':=λq H' s'=>by
   rw[bS q,gi] at hc;have:=k H' s';rw[hc] at this;exact this
  exists Az (λh1=>?_) (λh1=>?_)
  .w_fin;exact no (.inl (by rw[h1];rfl)) H (Same.refl _)
  have qK:0<y.length:=by
   rcases Ai2 y.length with q | q
   .refine bV ?_ h1;have:y.cps= #[]:=Array.eq_empty_of_size_eq_zero q;show y=⟨#[]⟩;rw[<-this]
   .exact q
  exists EB (Ab4 hy (by decide)) ?_;exists Az (λh2=>?_) (λh2=>?_)
  .w_fin;exact no (.inr (.inl (by omega))) H (Same.refl _)
  exists JD (c:=y.cps.toList.getD 0 0) (Ab4 hy (by decide)) (AA (j:=0) (by rw[Aa2,Aa3 (by omega)];rfl)) ?_;w_fin;have e0:Ai9 "0"=⟨#[48]⟩:=by decide +kernel
  refine Az (λh3=>?_) (λh3=>?_)
  .exists no (.inr (.inr ?_)) H (Same.refl _);rw[e0] at h3;exact(congrArg (λq:Str=>q.cps.toList.getD 0 0) h3)
  have h3':y.cps.toList.getD 0 0≠48:=λq=>h3 (by rw[q,e0]);rw[bG (by omega),Ab5] at hc;obtain⟨aaz,hint⟩:=hc;exists ⟨y,rfl,λD hD=>?_⟩;refine Mp (λ_ ys H'=>ys=[]/\H'=upd H D (.lst [])) ⟨rfl,rfl⟩ ?_ ?_
  .rintro i ch ys H1 hi ⟨rfl,rfl⟩;refine⟨(Kp.refl _).set rfl,?_⟩;exists _,_,rfl,rfl;have hm:ch∈y.cps.toList:=Ad0 (by rw[Ai0];exact hi);rw[Ae0.mp aaz ch hm];w_fin;exact⟨rfl,rfl⟩
  rintro ys H1 ⟨rfl,rfl⟩;have s1:=Al (o:=HO.lst []) hD;have g1:upd H D (HO.lst []) D=_:=upd_same;generalize upd H D _=H1 at s1 g1 ⊢;w_fin;intro p hp;refine LG (as:=[]) (bs:=[]) (bx.of (Al hp _ _ g1)) (bx.of upd_same) ?_;have s2:=s1.trans (Al (o:=HO.lst []) hp);generalize upd H1 p _=H2 at s2 ⊢;w_fin;cases hn:Aq2 y with
  | none=>
   rw[hn] at hint;cases hint
  | some n=>
   rw[hn] at hint;simp only[gi] at hint;have fin:=k H2 s2;have e:nV (qp z)= .int (if 2<=n/\n<=60 then n else 0):=by rw[hint]
   rw[e] at fin;refine FX (λq=>bV rfl q) (λ_=>?_);exists ⟨y,n,rfl,hn,by omega,?_⟩;exists Az (λh4=>?_) (λh4=>?_)
   .exists Az (λh5=>?_) (λh5=>?_)
    .rw[bS ⟨h4,h5⟩] at fin;w_fin;exact⟨y,n,rfl,hn,by omega,fin⟩
    .rw[bG (λq=>h5 q.2)] at fin;w_fin;exact fin
   .rw[bG (λq=>h4 q.1)] at fin;w_fin;exact fin
noncomputable abbrev Dx(d:Addr):Addr->Prop:=λb=>b=d
noncomputable def stK(a:Addr)(at_ sm:Nat)(no:V):List (Key×V):=[(.inr "words", .ref a),(.inr "at",nV at_),(.inr "sum",nV sm),(.inr "no",no)]
theorem M4{n:V}:Eg (stK a i s n) (.inr "words")=aS (.ref a):=by rfl
theorem EU{n:V}:Eg (stK a i s n) (.inr "at")=aS (nV i):=by rfl
theorem Ma{n:V}:Eg (stK a i s n) (.inr "sum")=aS (nV s):=by rfl
theorem Ja{n:V}:Eg (stK a i s n) (.inr "no")=aS n:=by rfl
theorem U4{n:V}:DL (stK a i s n) (.inr "at") (nV j)=stK a j s n:=by rfl
theorem Rj{n:V}:DL (stK a i s n) (.inr "sum") (nV j)=stK a i j n:=by rfl
theorem Jm{n m:V}:DL (stK a i s n) (.inr "no") m=stK a i s m:=by rfl
theorem gS(ha:H a=aS (.dK bN))(e:Eg bN (.inr z)=aS v):mP H a (.str z) (aS v):=e▸mP.k (k:= .inr z) ha
theorem pS(ha:H a=aS (.dK bN))(hl:bN.length<100)(e:DL bN (.inr z) v=yw):mQ H a (.str z) v (upd H a (.dK yw)):=e▸mQ.k (k:= .inr z) ha (by rw[Aj9];omega)
theorem CC(x:bP (Dx d) H H'):bP (Dx d) H (upd H' d o):=⟨λb o' e n=>(bG n).trans (x.st b o' e n),λb nb z=>by
 rcases Classical.em (b=d) with rfl | h
 .rw[upd_same] at z;cases z
 .exact x.th b nb ((bG h).symm.trans z)⟩
theorem QX(x:bP W H H')(n:H p=aV):bP W H (upd H' p o):=⟨λb o' e nb=>(bG (λz=>by rw[z,n] at e;cases e)).trans (x.st b o' e nb),λb nb z=>x.th b nb ((bG (λq=>by rw[q] at nb;exact nb n)).symm.trans z)⟩
structure vA(mx:Nat)(s:bE.Sm Str):Prop where
 tm:∀n∈s.times,2<=n/\n<=60
 sm:(s.held.map Ah4).sum=s.count
 dp:s.held.length=s.times.length+1
 mo:s.count<=mx
theorem WD{t:Nat}(h:fV z=aS (aS t)):2<=t/\t<=60:=by
 unfold fV at h;split at h
 .rcases EI z with e | ⟨n,e,n2,n60⟩
  .rw[e] at h;cases h
  .rw[e] at h;cases h;exact⟨by omega,by omega⟩
 .cases h
theorem vA.step(M:vA mx s)(e:bE.step dg fV fits mx s z=aS s'):vA mx s':=by
 unfold bE.step at e;split at e
 .split at e
  .rename_i u v st t ts e1 e2
   split at e
   .rename_i q
    cases e;have M1:=M.tm;have M2:=M.sm;have M3:=M.dp;rw[e2] at M1 M3;rw[e1] at M2 M3;simp only[Ac3,Af0,Aa9] at M2 M3;refine⟨λn hn=>M1 n (Aa8 _ hn),?_,?_,q.2⟩
    .simp only[Ac3,Af0,Aa5,bE.gD];have t2:=(M1 t Ab0).1;have:u.length*t=u.length+u.length*(t - 1):=by
      obtain⟨x,rfl⟩:∃x,t=x+1:=⟨t - 1,by omega⟩;rw[As5,AB0,Nat.add_comm]
     omega
    .simp only[Aa9];omega
   .cases e
  .cases e
 .split at e
  .rename_i t ht
   split at e
   .rename_i q
    cases e;refine⟨λn hn=>?_,?_,?_,q⟩
    .rcases Aa7.mp hn with rfl | hn
     .exact WD ht
     .exact M.tm n hn
    .simp only[Ac3,Af0,Ah5,AG4];exact M.sm
    .simp only[Aa9,M.dp]
   .cases e
  .cases e
  .split at e
   .rename_i h st e1
    split at e
    .rename_i q
     cases e;have M2:=M.sm;have M3:=M.dp;rw[e1] at M2 M3;simp only[Ac3,Af0,Aa9] at M2 M3;refine⟨M.tm,?_,?_,q.2⟩
     .simp only[Ac3,Af0,Aa5,Ah9];omega
     .simp only[Aa9];omega
    .cases e
   .cases e
theorem QJ{mx:Nat}{fits:Str->Bool}:∀(ws:List Str) (s s':bE.Sm Str),vA mx s->bE.run dg fV fits mx s ws=aS s'->vA mx s'
 | [],s,s',M,e=>by cases e;exact M
 | w::ws,s,s',M,e=>by
  unfold bE.run at e;split at e
  .rename_i s1 e1
   exact QJ ws s1 s' (M.step e1) e
  .cases e
theorem Nk(h:rn fits mx ws=aS s):vA mx s:=QJ ws M0 s ⟨λ_ h=>(by cases h),rfl,rfl,Ad4 _⟩ h
theorem Rv(hi:i<ws.length)(hs:rn fits mx (ws.take i)=aS s)(e:bE.step dg fV fits mx s (ws.getD i "")=aV):Cb fits mx ws (i+1):= .inl ⟨s,by omega,by omega,hs,e⟩
theorem TN{s:bE.Sm Str}(hs:rn fits mx ws=aS s)(h:s.times≠[]):Cb fits mx ws (ws.length+1):= .inr ⟨rfl,s,hs, .inl h⟩
noncomputable def ia(us:List Str):Nat:=us.countP λz=>decide (z∈S8)
theorem FO:ia (us++vs)=ia us+ia vs:=List.countP_append
theorem Iz(h:us.Sublist vs):ia us<=ia vs:=h.countP_le
theorem Rf(hj:j<ws.length)(hij:i<=j)(h:ws.getD j ""∈S8):ia (ws.drop (j+1))+1<=ia (ws.drop i):=by
 have eg:ws.getD j ""=ws[j]:=by rw[Aa2,Aa3 hj];rfl
 rw[eg] at h;have e1:ia (ws.drop j)=ia (ws.drop (j+1))+1:=by
  rw[Af7 hj];exact List.countP_cons_of_pos (iT h)
 have e2:ia (ws.drop j)<=ia (ws.drop i):=by
  rw[show j=i+(j - i) by omega, <-AC6];exact Iz (Ax8 ..)
 omega
noncomputable def C4(z:Str):Nat:=z.cps.toList.getD (z.length - 1) 0
structure wL(z:Str):Prop where
 ne:1<=z.length
 le:z.length<=100
 op:C4 z=40->z∈S8
structure Lw(ws:List Str)(mx:Nat):Prop where
 all:∀z∈ws,wL z
 len:ws.length<=200
 most:mx<=60
 ops:ia ws<=64
theorem W4(z:Str)(h:wL z):1<=z.length/\z.length<=100:=⟨h.ne,h.le⟩
theorem VB(z:Str)(_:wL z)(_:z≠dg)(n:C4 z≠40):fV z=none:=bG λh=>n (by
 unfold Al4 at h;rw[show nM=⟨#[40]⟩ by decide +kernel,Ab5,MS.subAt_one] at h;have:=of_decide_eq_true h.2;unfold C4;rw[Aa2];exact(congrArg (λo:Option Nat=>o.getD 0) this))
theorem VU(z:Str)(h:wL z)(e:C4 z=40):z∈S8/\z≠dg:=⟨h.op e,λq=>by rw[q] at e;revert e;decide +kernel⟩
theorem XA:∀z∈S8,fV z=aS (if qp z=0 then aV else aS (qp z)):=by decide +kernel
theorem Vy{c:TT}{D:Ends}(W:Nat->L2.St->Hp->Prop)(m0:Nat)(w0:W m0 σ H)(turn:∀m σ H,W m σ H->c σ H λb H1=>if b=true then ∃N:L2.St->Hp->Prop,(∀σ' H',N σ' H'->∃m',m'<m/\W m' σ' H')/\tb { D with nx:=N,ct:=N,bk:=D.nx } σ H1 else D.nx σ H1):NO c tb D σ H:=⟨W,⟨m0,w0⟩,turn⟩
noncomputable def LvW(H:Hp)(d a g:Addr)(ws gs:List Str)(mx:Nat)(op:Bool)(i:Nat)(st:List (List Str))(ts:List Nat)(m:Nat)(σ:L2.St)(H':Hp):Prop:=∃(it:Addr) (x6:Option V),σ=[aS (.ref d),aS (nV mx),aS (.ref g),aS (.bl op),aS (.ref a),aS (.ref it),x6]/\bP (Dx d) H H'/\H it=aV/\
 ((∃i1 eu u,i<=i1/\i1<=ws.length/\m=ws.length - i1+1/\rn (Eb gs) mx (ws.take i1)=aS ⟨u::st,ts,eu⟩/\H' d=aS (.dK (stK a i1 eu .bC))/\H' it=aS (.lst (u.map V.str)))\/
 (∃e i1 eu l,m=0/\Cb (Eb gs) mx ws e/\H' d=aS (.dK (stK a i1 eu (nV e)))/\H' it=aS (.lst l)))
noncomputable def Ct:Nat->Sp
 | 0=>λ_ _ _ _=>False
 | n+1=>λvs H Q _=>∃(d a g:Addr) (ws gs:List Str) (mx:Nat) (op:Bool) (i sm:Nat) (st:List (List Str)) (ts:List Nat),vs=[.ref d,nV mx, .ref g, .bl op]/\H d=aS (.dK (stK a i sm .bC))/\H a=aS (.lst (ws.map V.str))/\H g=aS (.lst (gs.map V.str))/\Lw ws mx/\i<=ws.length/\2*ia (ws.drop i)<=n/\op= !ts.isEmpty/\rn (Eb gs) mx (ws.take i)=aS ⟨[]::st,ts,sm⟩/\
  (∀H' p i' qZ u,i'<=ws.length->rn (Eb gs) mx (ws.take i')=aS ⟨u::st,ts,qZ⟩->(i'<ws.length->ws.getD i' ""=dg/\ts≠[]/\u≠[])->i<=i'->bP (Dx d) H H'->H' d=aS (.dK (stK a i' qZ .bC))->H p=aV->H' p=aS (.lst (u.map V.str))->Q (.ref p) H')/\
  (∀H' p i' qZ e l,Cb (Eb gs) mx ws e->bP (Dx d) H H'->H' d=aS (.dK (stK a i' qZ (nV e)))->H' p=aS (.lst l)->Q (.ref p) H')
noncomputable def DH:Nat->Sp
 | 0=>λ_ _ _ _=>False
 | n+1=>λvs H Q _=>∃(d a g:Addr) (ws gs:List Str) (mx t i sm:Nat) (v:List Str) (st:List (List Str)) (ts:List Nat),vs=[.ref d,nV mx, .ref g,nV t]/\H d=aS (.dK (stK a i sm .bC))/\H a=aS (.lst (ws.map V.str))/\H g=aS (.lst (gs.map V.str))/\Lw ws mx/\i<=ws.length/\2*ia (ws.drop i)+1<=n/\rn (Eb gs) mx (ws.take i)=aS ⟨[]::v::st,t::ts,sm⟩/\
  (∀H' p i' qZ u,i'<=ws.length->rn (Eb gs) mx (ws.take i')=aS ⟨(v++bE.rep u t)::st,ts,qZ⟩->i<=i'->bP (Dx d) H H'->H' d=aS (.dK (stK a i' qZ .bC))->H p=aV->H' p=aS (.lst ((bE.rep u t).map V.str))->Q (.ref p) H')/\
  (∀H' p i' qZ e,Cb (Eb gs) mx ws e->bP (Dx d) H H'->H' d=aS (.dK (stK a i' qZ (nV e)))->H' p=aS (.lst [])->Q (.ref p) H')
noncomputable abbrev CP:Stmt:=top 70
theorem ja:bz ["_law_state","_law_most","_law_goods","_law_times_here","_law_inner"] ["_law_state","_law_most","_law_goods","_law_times_here"] (Ah CP):=by w_left
theorem JO(F:cR K "_law_group" "_law_group" CP f fd)(T:Txt K mg c)(gF:bF P w K mg base "_law_level" (n+1) ["_law_state","_law_most","_law_goods","_law_is_open"] (Ct n)):bQ P w K mg base c6 (n+2) f fd ["_law_state","_law_most","_law_goods","_law_times_here"] (DH (n+1)):=by
 tbr_iter (F.ok ja)
 .obtain⟨d,a,g,ws,gs,mx,t,i,sm,v,st,ts,rfl,hd,ha,hg,L,hi,hn,qq,kQ,kE⟩:=h;have hu:=hr.cC;have dh:=hr.ig;refine⟨_,(Ac (Am 4 ja.nd (Ag gF hr (Aa (pv 0) (Aa (pv 1) (Aa (pv 2) (Aa FC Ab))))))
   (Ac (Aw (Ak GI (Ay dh (pv 0) Af (λ_ _=>rfl)) AV (Ap _)) (Ae (Ao (As Ab))) Aq)
   (Ac (Aw (Ak Bb (Ay dh (pv 0) Af (λ_ _=>rfl)) (Ai (AF (K:=K)) rfl T.ow Aj3 (Aa (Ay dh (pv 0) Af (λ_ _=>rfl)) Ab)) (Ap _)) (Ac (Bj dh (pv 0) Af (Aj Av (Ay dh (pv 0) Af (λ_ _=>rfl)) Ad) rfl)
   (Ae (Ao (As Ab)))) Aq)
   (Ac (Bj dh (pv 0) Af (Aj Av (Ay dh (pv 0) Af (λ_ _=>rfl)) Ad) rfl)
   (Ac (Bj dh (pv 0) Af (Aj Av (Ay dh (pv 0) Af (λ_ _=>rfl)) (Aj Ep (Ai (AF (K:=K)) rfl T.ow Aj3 (Aa (pv 4) Ab)) (Aj FE (pv 3) Ad))) rfl)
   (Ac (Aw (Ak CI (Ay dh (pv 0) Af (λ_ _=>rfl)) (pv 1) (Ap _)) (Ac (Bj dh (pv 0) Af (Ay dh (pv 0) Af (λ_ _=>rfl)) rfl)
   (Ae (Ao (As Ab)))) Aq)
   (Ae (Ao (Aj Hg (pv 4) (pv 3)))))))))),?_⟩
  w_fin;obtain⟨m,rfl⟩:∃m,n=m+1:=⟨n - 1,by omega⟩;have M0:=Nk qq;have ht:=M0.tm t Ab0;refine⟨d,a,g,ws,gs,mx,true,i,sm,v::st,t::ts,rfl,hd,ha,hg,L,hi,by omega,rfl,qq,?_,?_⟩
  .intro H1 p i1 eu u yx kZ vW hle x1 jH q9 sI;exists d,_,rfl,gS jH Ja;exists ⟨rfl,?_⟩;exists FX (λq=>bV rfl q) (λ_=>?_);w_fin;have uY:=x1.st _ _ ha (λz=>by rw[z,hd] at ha;cases ha);refine⟨d,_,rfl,gS jH EU,?_⟩;exists d,_,rfl,gS jH M4;exists Ax (bx.of uY) ?_;w_fin;rw[Aa0];refine Az (λq=>?_) (λq=>?_)
   .have e1:i1=ws.length:=by injection q
    subst e1;rw[Ah7] at kZ;exists d,_,rfl,gS jH EU;exists d,_,rfl,pS (v:=nV (ws.length+1)) jH (by show 4<100;decide) Jm;w_fin;intro p2 pR;exact kE _ p2 ws.length eu (ws.length+1) (TN kZ (λz=>by cases z)) ((CC x1).trans (bP.of (Al pR))) (Al pR _ _ upd_same) upd_same
   .have e1:i1<ws.length:=Nat.lt_of_le_of_ne yx λz=>q (by rw[z]);obtain⟨ew,_,aaA⟩:=vW e1;have M1:=Nk kZ;have ul:u.length<=60:=by
     have:=M1.sm;have:=M1.mo;have:=L.most;simp only[Ac3,Af0] at*;omega
    exists d,_,rfl,gS jH EU;exists d,_,rfl,pS (v:=nV (i1+1)) jH (by show 4<100;decide) U4;have x2:=CC (o:= .dK (stK a (i1+1) eu .bC)) x1;have hd2:upd H1 d (.dK (stK a (i1+1) eu .bC)) d=_:=upd_same;have pR:upd H1 d (.dK (stK a (i1+1) eu .bC)) p=_:=(bG (λz=>by rw[z,jH] at sI;cases sI)).trans sI;generalize upd H1 d _=H2 at x2 hd2 pR ⊢;exists d,_,rfl,gS hd2 Ma;exists Ax (bx.of pR) ?_;w_fin;rw[Aa0];refine⟨_,_,rfl,rfl, .inl ⟨by omega,by omega⟩,?_⟩;w_fin;have es:(eu:Int)+(u.length:Int)*((t:Int) - 1)=((eu+u.length*(t - 1):Nat):Int):=by
     rw[show (t:Int) - 1=((t - 1:Nat):Int) by omega];push_cast;rfl
    rw[es];have er:=Iy e1 kZ;have tV:bE.step dg fV (Eb gs) mx ⟨u::v::st,t::ts,eu⟩ (ws.getD i1 "")=if u≠[]/\eu+u.length*(t - 1)<=mx then aS ⟨(v++bE.rep u t)::st,ts,eu+u.length*(t - 1)⟩ else none:=by
     rw[ew];exact bS rfl
    rw[tV] at er;have um:u.length*(t - 1)<=60*59:=Nat.mul_le_mul ul (by omega);generalize eu+u.length*(t - 1)=rO at er tV ⊢;refine⟨d,_,rfl,pS (v:=nV rO) hd2 (by show 4<100;decide) Rj,?_⟩;have x3:=CC (o:= .dK (stK a (i1+1) rO .bC)) x2;have lH:upd H2 d (.dK (stK a (i1+1) rO .bC)) d=_:=upd_same;have yy:upd H2 d (.dK (stK a (i1+1) rO .bC)) p=_:=(bG (λz=>by rw[z,hd2] at pR;cases pR)).trans pR;generalize upd H2 d _=H3 at x3 lH yy ⊢;exists d,_,rfl,gS lH Ma;exists Az (λq2=>?_) (λq2=>?_)
    .rw[bG (λz=>by have:=z.2;omega)] at tV;exists d,_,rfl,gS lH EU;exists d,_,rfl,pS (v:=nV (i1+1)) lH (by show 4<100;decide) Jm;w_fin;intro p2 rf;exact kE _ p2 (i1+1) rO (i1+1) (Rv e1 kZ tV) ((CC x3).trans (bP.of (Al rf))) (Al rf _ _ upd_same) upd_same
    .rw[bS ⟨aaA,by omega⟩] at er;exists Hv yy (by omega) (by omega) (by rw[Aa0];omega) λq hq=>?_;rw[show ((t:Nat):Int).toNat=t by omega,Mg];have hq0:H q=none:=x3.free hq;exact kQ _ q (i1+1) rO u (by omega) er (by omega) (x3.trans (bP.of (Al hq))) (Al hq _ _ lH) hq0 upd_same
  .intro H1 p i1 eu e l he x1 jH sI;exists d,_,rfl,gS jH Ja;exists ⟨rfl,?_⟩;exists FX (λ_=>?_) (λq=>by cases q);w_fin;intro p2 pR;exact kE _ p2 i1 eu e he (x1.trans (bP.of (Al pR))) (Al pR _ _ jH) upd_same
noncomputable abbrev CO:Stmt:=top 69
theorem c8:bz ["_law_state","_law_most","_law_goods","_law_is_open","_law_words","_law_items","_law_word"] ["_law_state","_law_most","_law_goods","_law_is_open"] (Ah CO):=by w_left
theorem IR(F:cR K "_law_level" "_law_level" CO f fd)(T:Txt K mg c)(cM:bF P w K mg base "_law_times" 1 ["_law_word"] (DF K))(l7:bF P w K mg base "_law_group" (n+1) ["_law_state","_law_most","_law_goods","_law_times_here"] (DH n)):bQ P w K mg base c6 (n+2) f fd ["_law_state","_law_most","_law_goods","_law_is_open"] (Ct (n+1)):=by
 tbr_iter (F.ok c8)
 .obtain⟨d,a,g,ws,gs,mx,op,i,sm,st,ts,rfl,hd,ha,hg,L,hi,hn,hop,qq,kQ,kE⟩:=h;have hu:=hr.cC;have dh:=hr.ig;refine⟨_,(Ac (Am 4 c8.nd (Ay dh (pv 0) Af (λ_ _=>rfl)))
   (Ac (Am 5 c8.nd (As Ab))
   (Ac (Js Al5 (PW.pt (Fl (Ak Fq (Ay dh (pv 0) Af (λ_ _=>rfl)) AV (Ap _)) (En (Ak Ic (Ay dh (pv 0) Af (λ_ _=>rfl)) (Ai (AF (K:=K)) rfl T.ow Aj3 (Aa (pv 4) Ab)) (Ap _))))) (Ac (Am 6 c8.nd (AS (Bt (K:=K)) (pv 4) (Ay dh (pv 0) Af (λ_ _=>rfl)) (λ_ _=>rfl)))
   (Ac (Aw (Ak Bb (pv 6) Af (Ap _)) (Ac (Aw (PW.pt (Dm (BI (A4 (pv 3))) (Cg (Ak (DZ hu (K:=K)) (pv 5) (As Ab) (Ap _))))) (Ae (Bj dh (pv 0) Af (Aj Av (Ay dh (pv 0) Af (λ_ _=>rfl)) Ad) rfl)) Aq)
   (Ae (Ao (pv 5)))) Aq)
   (Ac (Bj dh (pv 0) Af (Aj Av (Ay dh (pv 0) Af (λ_ _=>rfl)) Ad) rfl)
   (Ae (Aw (Ak JH (AS JE (pv 6) (Aj FE (Ai (AF (K:=K)) rfl T.ow Aj3 (Aa (pv 6) Ab)) Ad) (λ_ _=>rfl)) Af (Ap _)) (Ac (Bj dh (pv 0) Af (Aj Av (Ay dh (pv 0) Af (λ_ _=>rfl)) Ad) rfl)
   (Ac (Aw (PW.pt (Dm (Ak (SN (K:=K)) (pv 6) (pv 2) (by with_unfolding_all rfl)) (Cg (Ak CI (Ay dh (pv 0) Af (λ_ _=>rfl)) (pv 1) (Ap _))))) (Ae (Bj dh (pv 0) Af (Ay dh (pv 0) Af (λ_ _=>rfl)) rfl)) Aq)
   (Ae (AL (Bl (K:=K) Aj0 Aj6 Aj7 A0 (pv 5) (Aa (pv 6) Ab)))))) (Ae (Aw (Ak Bb (Ag cM (hr.mono (by omega)) (Aa (pv 6) Ab)) Ad (Ap _)) (Ae (Bj dh (pv 0) Af (Ay dh (pv 0) Af (λ_ _=>rfl)) rfl)) (Ae (Am 5 c8.nd (Aj (Bs (K:=K)) (pv 5) (Ag l7 hr (Aa (pv 0) (Aa (pv 1) (Aa (pv 2) (Aa (Ag cM (hr.mono (by omega)) (Aa (pv 6) Ab)) Ab))))))))))))))))
   (Ae (Ao (pv 5)))))),?_⟩
  exists d,_,rfl,gS hd M4;w_fin;intro p0 q9;have s1:=Al (o:=HO.lst []) q9;have g1:upd H p0 (HO.lst []) p0=_:=upd_same;generalize upd H p0 _=H1 at s1 g1 ⊢;exists Vy (LvW H d a g ws gs mx op i st ts) _ ⟨p0,aV,rfl,bP.of s1,q9, .inl ⟨i,sm,[],Aa6 _,hi,rfl,qq,s1 _ _ hd,g1⟩⟩ ?_
  .rintro m σ H2 ⟨it,x6,rfl,x2,rg,(⟨i1,eu,u,hii,yx,rfl,kZ,hd2,hit⟩ | ⟨e,i1,eu,l,rfl,he,hd2,hit⟩)⟩
   .have nad:a≠d:=λz=>by rw[z,hd] at ha;cases ha
    have ngd:g≠d:=λz=>by rw[z,hd] at hg;cases hg
    have rj:it≠d:=λz=>by rw[z,hd] at rg;cases rg
    have pJ:=x2.st _ _ ha nad;have hg2:=x2.st _ _ hg ngd;exists d,_,rfl,gS hd2 Ja;exists ⟨rfl,?_⟩;exists Az (λ_=>?_) (λq=>bV rfl q);exists d,_,rfl,gS hd2 EU;exists Ax (bx.of pJ) ?_;w_fin;rw[Aa0];refine Az (λq=>?_) (λq=>?_)
    .have dZ:i1<ws.length:=by omega
     refine⟨λσ' H'=>∃m',m'<_/\LvW H d a g ws gs mx op i st ts m' σ' H',λ_ _ h=>h,?_⟩;exists d,_,rfl,gS hd2 EU;have ez:ws[i1]?=aS (ws.getD i1 ""):=by rw[Aa2,Aa3 dZ];rfl
     refine AU (bx.of pJ) (AA (j:=i1) (by rw[Ac1,ez];rfl)) ?_;have hz:wL (ws.getD i1 ""):=L.all _ (Ad0 ez);have er:=Iy dZ kZ;have eE:=λh=>Rv dZ kZ h;generalize zO:ws.getD i1 ""=z at hz er eE ⊢;exists Az (λrP=>?_) (λrP=>?_)
     .have rP:z=dg:=rP;subst rP;have bad:∀H3 l,Same H2 H3->H3 it=aS (.lst l)->bE.step dg fV (Eb gs) mx ⟨u::st,ts,eu⟩ dg=aV->Q (.ref it) (upd H3 d (.dK (stK a i1 eu (nV (i1+1))))):=λH3 l x3 e4 h=>kE _ it i1 eu (i1+1) l (eE h) (CC (x2.trans (bP.of x3))) upd_same ((bG rj).trans e4);cases op with
      | false=>
       have ets:ts=[]:=by
        cases ts with
        | nil=>rfl
        | cons _ _=>cases hop
       subst ets;exists d,_,rfl,gS hd2 EU;exists d,_,rfl,pS (v:=nV (i1+1)) hd2 (by show 4<100;decide) Jm;exists bad H2 _ (Same.refl _) hit ?_;unfold bE.step;rw[bS rfl];cases st <;> rfl
      | true=>
       have ets:ts≠[]:=λq=>by rw[q] at hop;cases hop
       w_fin;intro p5 tT;have s3:=Al (o:=HO.lst []) tT;refine Cr (as:=u) (bs:=[]) (bx.of (s3 _ _ hit)) (bx.of upd_same) ?_;have lH:=s3 _ _ hd2;have o8:=s3 _ _ hit;generalize upd H2 p5 _=H3 at s3 lH o8 ⊢;exists Az (λhu0=>?_) (λhu0=>?_)
       .exists d,_,rfl,gS lH EU;exists d,_,rfl,pS (v:=nV (i1+1)) lH (by show 4<100;decide) Jm;exists bad H3 _ s3 o8 ?_;subst hu0;exact OS (by show (if dg=dg then _ else _)=false;rw[bS rfl];exact Ag8 _)
       .w_fin;exact kQ H3 it i1 eu u yx kZ (λ_=>⟨zO,ets,hu0⟩) hii (x2.trans (bP.of s3)) lH rg o8
     .have rP:z≠dg:=rP;obtain⟨zl1,zl3⟩:=W4 z hz;exists d,_,rfl,gS hd2 EU;exists d,_,rfl,pS (v:=nV (i1+1)) hd2 (by show 4<100;decide) U4;have x3:=CC (o:= .dK (stK a (i1+1) eu .bC)) x2;have lH:upd H2 d (.dK (stK a (i1+1) eu .bC)) d=_:=upd_same;have o8:upd H2 d (.dK (stK a (i1+1) eu .bC)) it=_:=(bG rj).trans hit;have hg3:upd H2 d (.dK (stK a (i1+1) eu .bC)) g=_:=(bG ngd).trans hg2;generalize upd H2 d _=H3 at x3 lH o8 hg3 ⊢;exists EB (Ab4 zl3 (by decide)) ?_;w_fin;rw[show ((z.length:Nat):Int) - 1=((z.length - 1:Nat):Int) by omega];have zll:z.cps.toList.length=z.length:=by simp[Am3]
      refine JD (c:=C4 z) (Ab4 zl3 (by decide)) (AA (j:=z.length - 1) (by unfold C4;rw[Aa2,Aa3 (by omega)];rfl)) ?_;w_fin;have e40:Ai9 "("=⟨#[40]⟩:=by decide +kernel
      have M1:=Nk kZ;have ul:u.length<=60:=by
       have:=M1.sm;have:=M1.mo;have:=L.most;simp only[Ac3,Af0] at*;omega
      refine FX (λh4=>?_) (λh4=>?_)
      .have hl:C4 z≠40:=λq=>h4 (by rw[q,e40]);have ht:=VB z hz rP hl;have tV:bE.step dg fV (Eb gs) mx ⟨u::st,ts,eu⟩ z=if Eb gs z=true/\eu+1<=mx then aS ⟨(u++[z])::st,ts,eu+1⟩ else none:=by
        unfold bE.step;rw[bG rP,ht]
       rw[tV] at er eE;exists d,_,rfl,gS lH Ma;exists d,_,rfl,pS (v:=nV (eu+1)) lH (by show 4<100;decide) Rj;have x4:=CC (o:= .dK (stK a (i1+1) (eu+1) .bC)) x3;have mh:upd H3 d (.dK (stK a (i1+1) (eu+1) .bC)) d=_:=upd_same;have nj:upd H3 d (.dK (stK a (i1+1) (eu+1) .bC)) it=_:=(bG rj).trans o8;have zP:upd H3 d (.dK (stK a (i1+1) (eu+1) .bC)) g=_:=(bG ngd).trans hg3;generalize upd H3 d _=H4 at x4 mh nj zP ⊢;exists ⟨g,_,rfl, .inl (bx.of zP),rfl,by simp[Bx],?_⟩;w_fin;cases hf:Eb gs z with
       | false=>
        have hf':rF (V.str z) (gs.map V.str)=false:=hf;rw[hf',bS (show (if true=true then !false else false)=true from rfl)];exists d,_,rfl,gS mh EU;exists d,_,rfl,pS (v:=nV (i1+1)) mh (by show 4<100;decide) Jm;have x5:=CC (o:= .dK (stK a (i1+1) (eu+1) (nV (i1+1)))) x4;have vB:upd H4 d (.dK (stK a (i1+1) (eu+1) (nV (i1+1)))) d=_:=upd_same;have lA:upd H4 d (.dK (stK a (i1+1) (eu+1) (nV (i1+1)))) it=_:=(bG rj).trans nj;generalize upd H4 d _=H5 at x5 vB lA ⊢;exists mw (bx.of lA) ?_;exists BU lA (by rw[Aa0];omega) ?_;w_fin;exact⟨0,by omega,it,aS (.str z),rfl,QX x5 rg,rg, .inr ⟨i1+1,i1+1,eu+1,_,rfl,eE (bG λq=>by rw[hf] at q;cases q.1),(bG (λz=>rj z.symm)).trans vB,upd_same⟩⟩
       | true=>
        have hf':rF (V.str z) (gs.map V.str)=true:=hf;rw[hf',bG (show ¬ (if true=true then !true else true)=true by decide)];exists d,_,rfl,gS mh Ma;exists Az (λh6=>?_) (λh6=>?_)
        .exists d,_,rfl,gS mh EU;exists d,_,rfl,pS (v:=nV (i1+1)) mh (by show 4<100;decide) Jm;have x5:=CC (o:= .dK (stK a (i1+1) (eu+1) (nV (i1+1)))) x4;have vB:upd H4 d (.dK (stK a (i1+1) (eu+1) (nV (i1+1)))) d=_:=upd_same;have lA:upd H4 d (.dK (stK a (i1+1) (eu+1) (nV (i1+1)))) it=_:=(bG rj).trans nj;generalize upd H4 d _=H5 at x5 vB lA ⊢;exists mw (bx.of lA) ?_;exists BU lA (by rw[Aa0];omega) ?_;w_fin;exact⟨0,by omega,it,aS (.str z),rfl,QX x5 rg,rg, .inr ⟨i1+1,i1+1,eu+1,_,rfl,eE (bG λq=>by have:=q.2;omega),(bG (λz=>rj z.symm)).trans vB,upd_same⟩⟩
        .rw[bS ⟨hf,by omega⟩] at er;exists mw (bx.of nj) ?_;exists BU nj (by rw[Aa0];omega) ?_;w_fin;exact⟨ws.length - (i1+1)+1,by omega,it,aS (.str z),rfl,QX x4 rg,rg, .inl ⟨i1+1,eu+1,u++[z],by omega,dZ,rfl,er,(bG (λz=>rj z.symm)).trans mh,by rw[Ac2];exact upd_same⟩⟩
      .have hl:C4 z=40:=congrArg (λq:Str=>q.cps.toList.getD 0 0) (h4.trans e40);obtain⟨h8,_⟩:=VU z hz hl;have h9:=XA z h8;have fQ:=Rf dZ hii (show ws.getD i1 ""∈S8 by rw[zO];exact h8);obtain⟨n',rfl⟩:∃n',n=n'+1:=⟨n - 1,by omega⟩;exists ⟨z,rfl,h8,λH4 s4=>?_⟩;have x4:=x3.trans (bP.of s4);have mh:=s4 _ _ lH;have nj:=s4 _ _ o8;have zP:=s4 _ _ hg3;exists Az (λh5=>?_) (λh5=>?_)
       .have h5:qp z=0:=by injection h5
        rw[bS h5] at h9;exists d,_,rfl,gS mh EU;exists d,_,rfl,pS (v:=nV (i1+1)) mh (by show 4<100;decide) Jm;refine⟨0,by omega,it,aS (.str z),rfl,CC x4,rg, .inr ⟨i1+1,i1+1,eu,_,rfl,eE ?_,upd_same,(bG rj).trans nj⟩⟩;unfold bE.step;rw[bG rP,h9]
       .have h5:qp z≠0:=λq=>h5 (by rw[q];rfl);rw[bG h5] at h9;have tV:bE.step dg fV (Eb gs) mx ⟨u::st,ts,eu⟩ z=aS ⟨[]::u::st,qp z::ts,eu⟩:=by
         unfold bE.step;rw[bG rP,h9];exact bS M1.mo
        rw[tV] at er;exists ⟨z,rfl,h8,λH5 s5=>?_⟩;have x5:=x4.trans (bP.of s5);have vB:=s5 _ _ mh;have lA:=s5 _ _ nj;have hg5:=s5 _ _ zP;have ha5:=x5.st _ _ ha nad;exists ⟨d,a,g,ws,gs,mx,qp z,i1+1,eu,u,st,ts,rfl,vB,ha5,hg5,L,by omega,by omega,er,?_,?_⟩
        .intro H6 p i2 rO u2 hi2 yz aaT vC hd6 q9 wJ;have vD:=vC.st _ _ lA rj;have M2:=Nk yz;have ul2:(u++bE.rep u2 (qp z)).length<=60:=by
          have:=M2.sm;have:=M2.mo;have:=L.most;simp only[Ac3,Af0] at*;omega
         refine Dh (bx.of vD) (bx.of wJ) (by rw[Aa0,Aa0, <-Aa5];omega) λq hq=>?_;rw[<-Ac2];w_fin;have x7:=(x5.trans vC).trans (bP.of (Al (o:=HO.lst ((u++bE.rep u2 (qp z)).map V.str)) hq));exact⟨ws.length - i2+1,by omega,q,aS (.str z),rfl,x7,(x5.trans vC).free hq, .inl ⟨i2,rO,_,by omega,hi2,rfl,yz,Al hq _ _ hd6,upd_same⟩⟩
        .intro H6 p i2 rO e he vC hd6 wJ;have vD:=vC.st _ _ lA rj;refine Dh (bx.of vD) (bx.of wJ) (by rw[Aa0];simp only[Ah5];omega) λq hq=>?_;w_fin;exact⟨0,by omega,q,aS (.str z),rfl,(x5.trans vC).trans (bP.of (Al hq)),(x5.trans vC).free hq, .inr ⟨e,i2,rO,_,rfl,he,Al hq _ _ hd6,upd_same⟩⟩
    .w_fin;have e1:i1=ws.length:=by omega
     exact kQ H2 it i1 eu u yx kZ (λz=>by omega) hii x2 hd2 rg hit
   .exists d,_,rfl,gS hd2 Ja;exists ⟨rfl,?_⟩;exists Az (λq=>by cases q) (λ_=>?_);w_fin;exact kE H2 it i1 eu e l he x2 hd2 hit
theorem CV{f f2:Addr}{fd fd2:Am7}(D:bJ K mg "_law_level" CO ["_law_state","_law_most","_law_goods","_law_is_open"] f fd)(D2:bJ K mg "_law_group" CP ["_law_state","_law_most","_law_goods","_law_times_here"] f2 fd2)(T:Txt K mg c)(cM:bF P w K mg base "_law_times" 1 ["_law_word"] (DF K)):∀n,bQ P w K mg base c6 (n+1) f fd ["_law_state","_law_most","_law_goods","_law_is_open"] (Ct n)/\bQ P w K mg base c6 (n+1) f2 fd2 ["_law_state","_law_most","_law_goods","_law_times_here"] (DH n)
 | 0=>⟨⟨λ_ _ _ _ h=>h.elim,λ_ _ _ _ _ _ _ _ _ _ _ _ _ h=>h.elim⟩,⟨λ_ _ _ _ h=>h.elim,λ_ _ _ _ _ _ _ _ _ _ _ _ _ h=>h.elim⟩⟩
 | n+1=>⟨IR D.fn T cM (D2.call (CV D D2 T cM n).2),JO D2.fn T (D.call (CV D D2 T cM n).1)⟩
noncomputable def Ie:Sp:=λvs H Q _=>∃(a:Addr) (ws:List Str) (mx:Nat) (g:Addr) (gs:List Str),vs=[.ref a,nV mx, .ref g]/\H a=aS (.lst (ws.map V.str))/\H g=aS (.lst (gs.map V.str))/\Lw ws mx/\
 (∀out cn H' p,rn (Eb gs) mx ws=aS ⟨[out],[],cn⟩->ws≠[]->Same H H'->H p=aV->H' p=aS (.lst (out.map V.str))->Q (.ref p) H')/\
 (∀p H',Cb (Eb gs) mx ws p->Same H H'->Q (nV p) H')
theorem Ds(n:H d=aV)(s:Same H H1)(x:bP (Dx d) H1 H2):Same H H2:=λb o e=>x.st b o (s b o e) λz=>by rw[z,n] at e;cases e
noncomputable abbrev Gs:Stmt:=top 71
theorem iH:bz ["_law_words","_law_most","_law_goods","_law_state","_law_items"] ["_law_words","_law_most","_law_goods"] (Ah Gs):=by w_left
theorem MJ(F:cR K "_law_due" "_law_due" Gs f fd)(T:Txt K mg c)(gF:bF P w K mg base "_law_level" (129+1) ["_law_state","_law_most","_law_goods","_law_is_open"] (Ct 129)):bQ P w K mg base c6 131 f fd ["_law_words","_law_most","_law_goods"] Ie:=by
 tbr_iter (F.ok iH)
 .obtain⟨a,ws,mx,g,gs,rfl,ha,hg,L,kQ,kE⟩:=h;have hu:=hr.cC;have dh:=hr.ig;refine⟨_,(Ac (Aw (Ak (DZ hu (K:=K)) (pv 0) (As Ab) (Ap _)) (Ae (Ao Ad)) Aq)
   (Ac (Am 3 iH.nd (OV (C6 Af (pv 0) (C6 Af Ad (C6 Af Ad (C6 Af AV OC)))) rfl rfl (by simp) (by decide)))
   (Ac (Am 4 iH.nd (Ag gF hr (Aa (pv 3) (Aa (pv 1) (Aa (pv 2) (Aa FC Ab))))))
   (Ac (Aw (Ak GI (Ay dh (pv 3) Af (λ_ _=>rfl)) AV (Ap _)) (Ae (Ao (Ay dh (pv 3) Af (λ_ _=>rfl)))) Aq)
   (Ae (Ao (pv 4))))))),?_⟩
  w_fin;intro p1 sI;have s1:=Al (o:=HO.lst []) sI;refine Cr (as:=ws) (bs:=[]) (bx.of (s1 _ _ ha)) (bx.of upd_same) ?_;generalize upd H p1 _=H1 at s1 ⊢;exists Az (λh1=>?_) (λh1=>?_)
  .exists kE 1 H1 (.inr ⟨by rw[h1];rfl,?_⟩) s1;rw[h1];exact⟨_,rfl, .inr rfl⟩
  w_fin;intro d qt;exists ⟨upd_same,stK a 0 0 .bC,rfl,by show 4<=15;decide,?_⟩;have s2:Same H1 (upd (upd H1 d (.dK [])) d (.dK (stK a 0 0 .bC))):=AG (Al qt) qt;have hd2:upd (upd H1 d (.dK [])) d (.dK (stK a 0 0 .bC)) d=_:=upd_same;change AN 3 _ _ (upd (upd H1 d (.dK [])) d (.dK (stK a 0 0 .bC))) _;generalize upd (upd H1 d (.dK [])) d (.dK (stK a 0 0 .bC))=H2 at s2 hd2 ⊢;have s12:=s1.trans s2;have d0:H d=none:=s1.free qt;exists ⟨d,a,g,ws,gs,mx,false,0,0,[],[],rfl,hd2,s12 _ _ ha,s12 _ _ hg,L,Ad4 _,by have:=L.ops;show 2*ia (ws.drop 0)<=128;rw[AI8];omega,rfl,rfl,?_,?_⟩
  .intro H3 p i1 eu u yx qq vW _ x3 lH q9 yy;have e1:i1=ws.length:=by
    rcases Nat.lt_or_ge i1 ws.length with z | z
    .exact bV rfl (vW z).2.1
    .omega
   rw[e1,Ah7] at qq;exists d,_,rfl,gS lH Ja;exists ⟨rfl,?_⟩;exists FX (λq=>bV rfl q) (λ_=>?_);w_fin;exact kQ u eu H3 p qq h1 (Ds d0 s12 x3) (s12.free q9) yy
  .intro H3 p i1 eu e l he x3 lH yy;exists d,_,rfl,gS lH Ja;exists ⟨rfl,?_⟩;exists FX (λ_=>?_) (λq=>by cases q);exists d,_,rfl,gS lH Ja;w_fin;exact kE e H3 he (Ds d0 s12 x3)
noncomputable abbrev tN(n:Nat):Str:=toString ((n:Nat):Int)
theorem getD_map{α β:Type}{f:α->β}{xs:List α}{d:β}{e:α}(h:i<xs.length):(xs.map f).getD i d=f (xs.getD i e):=by
 rw[Aa2,Ac1,Aa3 h,Aa2,Aa3 h];rfl
theorem A7{α β:Type}{f:α->β}{xs:List α}{d:α}:(Ab7 xs.length).map (λi=>f (xs.getD i d))=xs.map f:=by
 refine Af8 (by simp) λi g1 g2=>?_;rw[Au0,Au0,AE3,Aa2,Aa3 (by simpa using g2)];rfl
noncomputable def BM:Sp:=λvs H Q _=>∃(a:Addr) (ws:List Str) (ns:List Nat),vs=[.ref a]/\H a=aS (.lst (ws.map V.str))/\ws.length<=100/\(∀z∈ws,z.length<=100)/\ws.map AI=ns.map nV/\∀H' p,Same H H'->H p=aV->H' p=aS (.lst (ns.map nV))->Q (.ref p) H'
noncomputable abbrev CY:Stmt:=top 22
theorem Ik:bz ["words"] ["words"] (Ah CY):=by w_left
theorem Iu(F:cR K "numbers_told" "numbers_told" CY f fd)(T:Txt K mg c)(bH:bF P w K mg base "number_of" 3 ["word"] BD):bQ P w K mg base c6 4 f fd ["words"] BM:=by
 tbr_iter (F.ok Ik)
 .obtain⟨a,ws,ns,rfl,ha,hl,hz,hn,k⟩:=h;have hlen:ws.length=ns.length:=by have:=congrArg Ah4 hn;simpa using this
  refine⟨_,(Ae (Ao (AD (Bp (K:=K) (pv 0)) (λ_ _ _ _=>AC) (λ_ _ _ _=>(Ag bH hr (Aa (pv 0) Ab)))))),?_⟩;exists ⟨a,rfl,⟨_,bx.of ha⟩,λD hD=>?_⟩;refine Ed (G:=λi=>((ns.getD i 0:Nat):Int)) (AH (bx.of ha) rfl) hD (by rw[Aa0];omega) ?_ ?_
  .intro i H' R hi s kk;rw[Aa0] at hi;rw[getD_map (e:=("":Str)) hi];have ev:AI (ws.getD i "")=nV (ns.getD i 0):=by
    rw[<-getD_map (f:=AI) (d:= .bC) hi,hn,getD_map (e:=0) (by omega)]
   exists ⟨_,rfl,hz _ (L2.getD_mem hi),λH3 s3=>?_⟩;rw[ev];exact kk H3 s3
  intro H1 s1 g1;rw[Aa0,hlen,A7 (f:=λn:Nat=>(n:Int)),Ae2] at g1;exact k H1 D s1 hD g1
theorem FM(z:Str)(xs:List Str):rF (.str z) (xs.map V.str)=decide (z∈xs):=by
 unfold rF;rw[Ad5,AG9,decide_eq_true_eq];constructor
 .rintro⟨y,hy,e⟩;obtain⟨k,hk,rfl⟩:=Ac4.mp hy;have e:k=z:=by simpa [nA] using e
  exact e▸hk
 .intro h;exact⟨.str z,Ac4.mpr ⟨z,h,rfl⟩,by simp[nA]⟩
noncomputable def Ly(ns:List Nat):List Str:=if ns=[] then ["-"] else ns.map tN
theorem IG{zs:List Str}{c:Nat}(h:∀z∈zs,z.length<=c):(zs.map (·.length)).sum<=zs.length*c:=by
 induction zs with
 | nil=>simp
 | cons z zs ih=>
  have:=h z Ab0;have:=ih λy hy=>h y (Aa8 _ hy);rw[Ac3,Af0,Aa9,Nat.succ_mul];omega
theorem LA:∀n:Nat,n<17->(tN n).length<=2:=by decide +kernel
noncomputable def BW(ns:List Nat):Str:=if ns=[] then "-" else Ak4 "+" (ns.map tN)
noncomputable def A2(z:Str):List Str:=if z="-" then [] else Ai8 z "+"
noncomputable def Cj:Sp:=λvs H Q _=>∃z:Str,vs=[.str z]/\z.length<=1000/\∀H' p,Same H H'->H p=aV->H' p=aS (.lst ((A2 z).map V.str))->Q (.ref p) H'
noncomputable abbrev CB:Stmt:=top 50
theorem Hx:bz ["word"] ["word"] (Ah CB):=by w_left
theorem HI(F:cR K "trodden_words" "trodden_words" CB f fd)(T:Txt K mg c):bQ P w K mg base c6 1 f fd ["word"] Cj:=by
 tbr_iter (F.ok Hx)
 .obtain⟨z,rfl,hl,k⟩:=h;refine⟨_,(Ae (Ao (C1 (Ak Bb (pv 0) (Fc T.o6) (Ap _)) (As Ab) (Bl (K:=K) Aj5 Al2 An1 FU (pv 0) (Aa (Fc T.o7) Ab))))),?_⟩;w_fin;unfold A2 at k;refine Az (λh=>?_) (λh=>?_)
  .rw[bS (show z=Ai9 "-" from h)] at k;w_fin;row_lines H x1;exact k H1 p1 s1 n1 g1
  .rw[bG (show ¬ z=Ai9 "-" from h)] at k;exists rK ?_;exists ⟨_,_,rfl,rfl,by decide,by rw[Aj9];omega,?_⟩;row_lines H x1;exact k H1 p1 s1 n1 g1
noncomputable def CW:Nat->Nat->List Nat->Prop
 | _,_,[]=>True
 | l,m,n::ns=>l+1<=n/\n<=m/\CW n m ns
theorem So:(" ":Str)=⟨#[32]⟩:=by decide +kernel
theorem Qr:("\n":Str)=⟨#[10]⟩:=by decide +kernel
theorem GZ:("+":Str)=⟨#[43]⟩:=by decide +kernel
theorem Ki(s:Str)(ws:List Str):Ak4 s ws=Am8 s ws:=StrLaws.glued_eq_join _ _
theorem Ji{w v:Str}:(Am8 ⟨#[s]⟩ (w::v::r)).cps.toList=w.cps.toList++s::(Am8 ⟨#[s]⟩ (v::r)).cps.toList:=by
 show (w++⟨#[s]⟩++Am8 ⟨#[s]⟩ (v::r)).cps.toList=_;simp[Str.cps_append]
theorem II{s:Nat}:∀{ws:List Str} {c:Nat},c∈(Am8 ⟨#[s]⟩ ws).cps.toList->c=s\/∃w∈ws,c∈w.cps.toList
 | [],c,h=>by
  have:(Am8 ⟨#[s]⟩ []).cps.toList=[]:=rfl;rw[this] at h;cases h
 | [w],c,h=> .inr ⟨w,Ab0,h⟩
 | w::v::r,c,h=>by
  rw[Ji] at h;rcases Ad6.mp h with h | h
  .exact .inr ⟨w,Ab0,h⟩
  .rcases Aa7.mp h with h | h
   .exact .inl h
   .rcases II h with h | ⟨y,h1,h2⟩
    .exact .inl h
    .exact .inr ⟨y,Aa8 _ h1,h2⟩
theorem Fk(z:Str):z.cps.toList.length=z.length:=by simp[Am3]
theorem Lq{s n:Nat}:∀{ws:List Str},(∀z∈ws,z.length<=n)->(Am8 ⟨#[s]⟩ ws).length<=ws.length*(n+1)
 | [],h=>Ad4 _
 | [w],h=>by have:=h w Ab0;show w.length<=1*(n+1);omega
 | w::v::r,h=>by
  have:=h w Ab0;have i:=Lq (s:=s) λz hz=>h z (Aa8 w hz);rw[<-Fk,Ji,Aa5,Aa9,Fk,Fk,Aa9,Nat.succ_mul];omega
theorem UI{s:Nat}:∀{ws:List Str},ws≠[]->(∀z∈ws,z.cps.toList≠[])->(Am8 ⟨#[s]⟩ ws).cps.toList≠[]
 | [],h,_=>bV rfl h
 | [w],_,h=>h w Ab0
 | w::v::r,_,_=>by rw[Ji];simp
structure GB(z:Str):Prop where
 ne:z.cps.toList≠[]
 nl:(10:Nat)∉z.cps.toList
 bl:(32:Nat)∉z.cps.toList
 le:z.length<=100
noncomputable def zQ(c:Nat):Bool:=c == 43||c == 45||(decide (48<=c)&&decide (c<=57))||(decide (97<=c)&&decide (c<=122))
structure GC(z:Str):Prop where
 ne:z.cps.toList≠[]
 ok:∀c∈z.cps.toList,zQ c=true
 le:z.length<=100
theorem GC.gb(g:GC z):GB z:=⟨g.ne,λh=>by have:=g.ok _ h;revert this;decide,λh=>by have:=g.ok _ h;revert this;decide,g.le⟩
theorem Hy:∀n:Nat,n<17->(tN n).cps.toList≠[]/\(∀c∈(tN n).cps.toList,48<=c/\c<=57)/\(tN n).length<=2/\MN.numOf (tN n).cps.toList=aS n:=by decide +kernel
theorem IL(h:n<=16):AI (tN n)=nV n:=CT (Hy n (by omega)).2.2.2
theorem Wy{c:Nat}(h:48<=c/\c<=57):zQ c=true:=by
 unfold zQ;rw[iT h.1,iT h.2];simp
theorem HU(h:n<=16):GC (tN n):=let ⟨h1,h2,h3,_⟩:=Hy n (by omega);⟨h1,λc hc=>Wy (h2 c hc),by omega⟩
theorem RW(h:KA z):GC z:=by
 obtain⟨h1,h2⟩:=h;obtain⟨⟨l⟩⟩:=z;obtain⟨c,rfl⟩:∃c,l=[c]:=Az8.mp (by simpa [Am3] using h1);have h2:(!(Ak0 jI ⟨#[c]⟩ 0 jI.length 1).isEmpty)=true:=h2;rw[StrLaws.found_one,gi] at h2;have key:∀c∈jI.cps.toList,zQ c=true:=by decide +kernel
 refine⟨by simp,λd hd=>?_,by show 1<=100;decide⟩;have:d=c:=by simpa using hd
 rw[this];exact key c h2
theorem LD(h:∀n∈ns,n<=16)(hl:ns.length<=16):GC (BW ns):=by
 unfold BW;split
 .exact⟨by decide +kernel,by decide +kernel,by decide +kernel⟩
 .rename_i gh
  have nn:ns.map tN≠[]:=λz=>gh (by simpa using z);rw[GZ,Ki];refine⟨UI nn λw hw=>?_,λc hc=>?_,?_⟩
  .obtain⟨n,h1,rfl⟩:=Ac4.mp hw;exact(HU (h n h1)).ne
  .rcases II hc with rfl | ⟨y,hy,hc⟩
   .decide
   .obtain⟨n,h1,rfl⟩:=Ac4.mp hy;exact(HU (h n h1)).ok c hc
  .have:=Lq (s:=43) (n:=2) (ws:=ns.map tN) λw hw=>by
    obtain⟨n,h1,rfl⟩:=Ac4.mp hw;exact(Hy n (by have:=h n h1;omega)).2.2.1
   rw[Aa0] at this;omega
theorem Hl(h:∀n∈ns,n<=16):A2 (BW ns)=ns.map tN:=by
 unfold BW;split
 .rename_i e
  subst e;rfl
 .rename_i gh
  have nn:ns.map tN≠[]:=λz=>gh (by simpa using z);have sp:Ai8 (Ak4 "+" (ns.map tN)) "+"=ns.map tN:=by
   rw[GZ];refine MS.jh 43 (by decide) _ nn (λw hw hc=>?_) (UI nn λw hw=>?_)
   .obtain⟨n,h1,rfl⟩:=Ac4.mp hw;have:=(Hy n (by have:=h n h1;omega)).2.1 43 hc;omega
   .obtain⟨n,h1,rfl⟩:=Ac4.mp hw;exact(HU (h n h1)).ne
  unfold A2;rw[bG,sp];intro e;rw[e,show Ai8 ("-":Str) "+"=[("-":Str)] by decide +kernel] at sp;obtain⟨n,h1,h2⟩:=Ac4.mp (show ("-":Str)∈ns.map tN by rw[<-sp];exact Ab0);have:=(Hy n (by have:=h n h1;omega)).2.1 45 (by rw[h2];decide +kernel);omega
theorem Nb{m:Nat}:∀{ns:List Nat} {l:Nat},(∀i,i<ns.length->(l::ns).getD i 0+1<=ns.getD i 0/\ns.getD i 0<=m)->CW l m ns
 | [],_,_=>trivial
 | n::ns,l,h=>⟨(h 0 (by simp)).1,(h 0 (by simp)).2,Nb λi hi=>h (i+1) (by simpa using hi)⟩
theorem GD(h:Lc m ns):CW 0 m ns:=Nb h
theorem K3{m:Nat}:∀{ns:List Nat} {l:Nat},CW l m ns->∀n∈ns,n<=m
 | n::ns,l,h,x,hx=>by
  rcases Aa7.mp hx with rfl | hx
  .exact h.2.1
  .exact K3 h.2.2 x hx
theorem B9{m:Nat}:∀{ns:List Nat} {l:Nat},CW l m ns->l<=m->l+ns.length<=m
 | [],l,_,hl=>hl
 | n::ns,l,h,_=>by
  have:=B9 h.2.2 h.2.1;have:=h.1;rw[Aa9];omega
theorem OX:∀t,t<61->2<=t->(fU t).cps.toList≠[]/\(10:Nat)∉(fU t).cps.toList/\(32:Nat)∉(fU t).cps.toList/\(fU t).length<=100/\fU t≠dg/\fV (fU t)=aS (aS t):=by decide +kernel
theorem Cp{l:List Str}(h:bE.jj fU dg pl ws l):ws.length<=3*l.length:=by
 induction h with
 | nil=>exact Aa6 _
 | one x px _ ih=>rw[Aa9,Aa9];omega
 | tM t t2 t60 hu _ _ zR zS=>
  rename_i us u ws l _ _
  have:=Ae9.mpr hu;have hm:u.length*2<=u.length*t:=Ar4 _ t2;rw[Aa5,bE.gD,Aa9,Aa5,Aa9];omega
theorem gy.app:∀{as bs:List Addr} {us vs:List (List Str)},gy H as us->gy H bs vs->gy H (as++bs) (us++vs)
 | [],_,[],_,_,h=>h
 | _::_,_,_::_,_,h,k=>⟨h.1,gy.app h.2 k⟩
theorem gy.get:∀{as:List Addr} {us:List (List Str)} {i:Nat} {u:List Str},gy H as us->us[i]?=aS u->∃a,as[i]?=aS a/\H a=aS (.lst (u.map V.str))
 | [],[],_,_,_,e=>by simp at e
 | [],_::_,_,_,h,_=>h.elim
 | _::_,[],_,_,h,_=>h.elim
 | a::as,u::us,0,_,h,e=>by cases e;exact⟨a,rfl,h.1⟩
 | a::as,u::us,i+1,_,h,e=>gy.get (i:=i) h.2 (by simpa using e)
structure dI(H:Hp)(r:Addr)(as:List Addr)(us:List (List Str)):Prop where
 at':H r=aS (.lst (as.map V.ref))
 el:gy H as us
 nr:r∉as
theorem dI.same{us:List (List Str)}(h:dI H r as us)(s:Same H H'):dI H' r as us:=⟨s _ _ h.at',h.el.on λa _ o e=>s a o e,h.nr⟩
theorem dI.ext{bs:List Addr}{us vs:List (List Str)}(h:dI H r as us)(b:gy H bs vs)(n:r∉bs):dI (upd H r (.lst (as.map V.ref++bs.map V.ref))) r (as++bs) (us++vs):=by
 have nr:r∉as++bs:=λz=>(Ad6.mp z).elim h.nr n;exact⟨by rw[upd_same,Ac2],(h.el.app b).on λa ha o e=>by rw[An (λz=>nr (by rw[<-z];exact ha))];exact e,nr⟩
theorem dI.put{us:List (List Str)}{u:List Str}(h:dI H r as us)(b:H p=aS (.lst (u.map V.str)))(n:p≠r):dI (upd H r (.lst (as.map V.ref++[.ref p]))) r (as++[p]) (us++[u]):=
 h.ext (bs:=[p]) (vs:=[u]) ⟨b,trivial⟩ (λz=>n (Ac9.mp z).symm)
theorem OI{H:Hp}{F:Addr->Prop}:∀{ys:List V} {rows:List (List Str)},ys.length=rows.length->(∀i,i<rows.length->Rp H F 1 (ys.getD i .bC) (dS (rows.getD i [])))->∃as,ys=as.map V.ref/\gy H as rows/\∀a∈as,F a
 | [],[],_,_=>⟨[],rfl,trivial,λa ha=>(nomatch ha)⟩
 | y::ys,r::rows,hl,h=>by
  obtain⟨as,e1,e2,e3⟩:=OI (ys:=ys) (rows:=rows) (by simpa using hl) λi hi=>h (i+1) (by simpa using hi);obtain⟨a,ea,h1,h2,_⟩:=Mw (h 0 (by simp));have ea:y= .ref a:=ea;exact⟨a::as,by rw[e1,ea];rfl,⟨h1,e2⟩,λb hb=>(Aa7.mp hb).elim (λz=>z▸h2) (e3 b)⟩
theorem Wx(r:Rp H F 2 (.ref D) (.lst (rows.map dS))):∃as,H D=aS (.lst (as.map V.ref))/\gy H as rows/\∀a∈as,F a:=by
 obtain⟨m,a,vs,em,e,hD,_,hl,_,el⟩:=Ey r;cases em;cases e;rw[Aa0] at hl;obtain⟨as,e1,e2,e3⟩:=OI hl λi hi=>by
  have:=el i (by simpa using hi);rw[L2.getD_map dS rows i .bC [] hi] at this;exact this
 exact⟨as,by rw[hD,e1],e2,e3⟩
theorem Ir{xs ys:List Str}(c:H l=aS (.lst (xs.map V.str)))(d:H p=aS (.lst (ys.map V.str)))(b:xs.length+ys.length<=1000)(h:∀q,H q=aV->Q (.ref q) (upd H q (.lst ((xs++ys).map V.str)))):Nh K (.ref l) (.ref p) H Q:=Dh (bx.of c) (bx.of d) (by rw[Aa0,Aa0];omega) (by rw[<-Ac2];exact h)
noncomputable def HR(d:Dr)(w1 w2 w3 w4:List Str):List (List Str):=[[("shafts":Str),tN d.sh],[("treadles":Str),tN d.tr],("thread":Str)::w1]++d.ti.map (λt=>("tie":Str)::Ly t)++[("tread":Str)::w2,("warp":Str)::w3,("weft":Str)::w4]
structure yC(d:Dr)(w1 w2 w3 w4:List Str):Prop where
 a1:bE.jj fU dg (λz=>z∈d.th.map tN) w1 (d.th.map tN)
 a2:bE.jj fU dg (λz=>z∈d.td.map BW) w2 (d.td.map BW)
 a3:bE.jj fU dg (λz=>z∈d.wa) w3 d.wa
 a4:bE.jj fU dg (λz=>z∈d.we) w4 d.we
section
variable {d:Dr}(ok:eG d)
include ok
theorem eG.yD:∀n∈d.th,n<=16:=λn hn=>Ab4 (ok.hs n hn) ok.s2
theorem eG.rm:∀l∈d.ti,∀n∈l,n<=16:=λl hl n hn=>Ab4 (K3 (GD (ok.ir l hl)) n hn) ok.s2
theorem eG.tiL:∀l∈d.ti,l.length<=16:=λl hl=>by have:=B9 (GD (ok.ir l hl)) (Ad4 _);have:=ok.s2;omega
theorem eG.yE:∀l∈d.td,∀n∈l,n<=16:=λl hl n hn=>Ab4 (K3 (GD (ok.pr l hl)) n hn) ok.t2
theorem eG.tdL:∀l∈d.td,l.length<=16:=λl hl=>by have:=B9 (GD (ok.pr l hl)) (Ad4 _);have:=ok.t2;omega
theorem eG.g1:∀z∈d.th.map tN,GC z:=λz hz=>by obtain⟨n,h,rfl⟩:=Ac4.mp hz;exact HU (ok.yD n h)
theorem eG.g2:∀z∈d.td.map BW,GC z:=λz hz=>by obtain⟨n,h,rfl⟩:=Ac4.mp hz;exact LD (ok.yE n h) (ok.tdL n h)
theorem eG.g3:∀z∈d.wa,GC z:=λz hz=>RW (ok.wc z hz)
theorem eG.g4:∀z∈d.we,GC z:=λz hz=>RW (ok.fc z hz)
theorem eG.n1:d.th.map tN≠[]:=λz=>by have:=ok.h1;rw[<-Aa0 (f:=tN),z] at this;simp at this
theorem eG.n2:d.td.map BW≠[]:=λz=>by have:=ok.p1;rw[<-Aa0 (f:=BW),z] at this;simp at this
theorem eG.n3:d.wa≠[]:=λz=>by have:=ok.h1;have:=ok.wl;rw[z] at this;simp at this;omega
theorem eG.n4:d.we≠[]:=λz=>by have:=ok.p1;have:=ok.fl;rw[z] at this;simp at this;omega
theorem eG.vE:∀l∈d.ti,(∀z∈Ly l,GB z)/\(Ly l).length<=16:=λl hl=>by
 unfold Ly;split
 .exact⟨λz hz=>by rw[Ac9.mp hz];exact⟨by decide +kernel,by decide +kernel,by decide +kernel,by decide +kernel⟩,by decide⟩
 .refine⟨λz hz=>?_,by rw[Aa0];exact ok.tiL l hl⟩;obtain⟨n,h,rfl⟩:=Ac4.mp hz;exact(HU (ok.rm l hl n h)).gb
theorem eG.yF:(HR d w1 w2 w3 w4).length=d.tr+6:=by
 unfold HR;rw[Aa5,Aa5,Aa0,ok.il];show 3+d.tr+3=_;omega
end
theorem LJ{xs:List Str}(h:i<=j):FD (xs.map V.str) (aS (i:Nat)) (aS (j:Nat))=(bE.sl xs i j).map V.str:=by
 rw[Te (by omega) (by omega)];unfold bE.sl;rw[Ad3,Ad3,Ap3,Ay2,AJ0]
noncomputable def GY(K:aU):Sp:=λvs H Q _=>∃(a:Addr) (ns:List Nat),vs=[.ref a]/\H a=aS (.lst (ns.map nV))/\ns.length<=16/\(∀n∈ns,n<=16)/\∀H',Same H H'->Q (.str (BW ns)) H'
theorem O9(c:bx K H l (ns.map nV))(d:bx K H p [])(h:Q (.bl (decide (ns=[]))) H):MW K false (.ref l) (.ref p) H Q:=
 ⟨l,p,_,_,rfl,rfl,c,d,by simp[Bx],by simp[Bx],by cases ns <;> exact h⟩
theorem Ft(h:n<=1000):(((n:Nat):Int)).natAbs.log2<1920:=by
 have:Nat.log2 n<=n:=Nat.log2_le_self n;show Nat.log2 n<1920;omega
noncomputable abbrev E9:Stmt:=top 65
theorem Ln:bz ["_law_pick_here"] ["_law_pick_here"] (Ah E9):=by w_left
theorem Lf(F:cR K "_law_pick" "_law_pick" E9 f fd)(T:Txt K mg c):bQ P w K mg base c6 1 f fd ["_law_pick_here"] (GY K):=by
 tbr_iter (F.ok Ln)
 .obtain⟨a,ns,rfl,ha,hl,hn,k⟩:=h;have hu:=hr.cC;refine⟨_,(Ae (Ao (C1 (Ak (DZ hu (K:=K)) (pv 0) (As Ab) (Ap _)) Af (Bl (K:=K) Aj5 At1 At2 (LB (K:=K)) Af (Aa (AD (Bp (K:=K) (pv 0)) (λ_ _ _ _=>AC) (λ_ _ _ _=>(Au HJ rfl T.ow As6 (Aa (pv 0) Ab)))) Ab))))),?_⟩;w_fin;row_lines H x1;refine O9 (bx.of (s1 _ _ ha)) (bx.of g1) ?_;exists Az (λh=>?_) (λh=>?_)
  .have:=k H1 s1;unfold BW at this;rw[bS h] at this;exact this
  .exists rK ?_;w_fin;have uY:=s1 _ _ ha;refine⟨a,rfl,⟨_,bx.of uY⟩,λD hD=>?_⟩;refine Cm (G:=λi=>tN (ns.getD i 0)) (AH (bx.of uY) rfl) hD (by rw[Aa0];omega) ?_ ?_
   .intro i H' R hi s kk;rw[Aa0] at hi;rw[getD_map (e:=0) hi];exists ⟨_,rfl,Ft (Ab4 (hn _ (L2.getD_mem hi)) (by decide)),kk H' (Same.refl _)⟩
   intro H2 s2 g2;rw[Aa0,A7] at g2;exists _,D,ns.map tN,rfl,rfl,bx.of g2,?_
   .have:=IG (zs:=ns.map tN) (c:=2) (λz hz=>by
     obtain⟨n,h1,rfl⟩:=Ac4.mp hz;exact LA n (AG5 (hn n h1)))
    rw[Aa0] at this ⊢;show _+ns.length*1<=_;omega
   .have:=k H2 (s1.trans s2);unfold BW at this;rw[bG h] at this;exact this
noncomputable def DR:Sp:=λvs H Q _=>∃(a:Addr) (xs:List Str) (i sz t:Nat),vs=[.ref a,nV i,nV sz,nV t]/\H a=aS (.lst (xs.map V.str))/\i<=60/\sz<=3/\t<=100/\∀H',Same H H'->Q (.bl (decide (bE.sl xs (i+sz*t) (i+sz*t+sz)=bE.sl xs i (i+sz)))) H'
noncomputable abbrev EM:Stmt:=top 66
theorem jb:bz ["_law_items","_law_at","_law_size","_law_times_here","_law_here"] ["_law_items","_law_at","_law_size","_law_times_here"] (Ah EM):=by w_left
theorem J9(F:cR K "_law_again" "_law_again" EM f fd)(T:Txt K mg c):bQ P w K mg base c6 1 f fd ["_law_items","_law_at","_law_size","_law_times_here"] DR:=by
 tbr_iter (F.ok jb)
 .obtain⟨a,xs,i,sz,t,rfl,ha,hi,hs,ht,k⟩:=h;have hu:=hr.cC;refine⟨_,(Ac (Am 4 jb.nd (Aj Av (pv 1) (Aj Ep (pv 2) (pv 3))))
   (Ae (Ao (Bw (DZ hu (K:=K)) (AM (BY (K:=K)) (pv 0) (AJ (pv 4)) (AJ (Aj Av (pv 4) (pv 2)))) (AM (BY (K:=K)) (pv 0) (AJ (pv 1)) (AJ (Aj Av (pv 1) (pv 2)))) (Ap _))))),?_⟩
  exists AE (.inl ⟨by omega,by omega⟩) ?_;w_fin;rw[show ((i:Nat):Int)+((sz:Nat):Int)*((t:Nat):Int)=((i+sz*t:Nat):Int) by push_cast;rfl];refine Bo (bx.of ha) ?_;rw[show ((i+sz*t:Nat):Int)+((sz:Nat):Int)=((i+sz*t+sz:Nat):Int) by push_cast;rfl,LJ (by omega)];row_lines H x1;exists Bo (bx.of (s1 _ _ ha)) ?_;rw[show ((i:Nat):Int)+((sz:Nat):Int)=((i+sz:Nat):Int) by push_cast;rfl,LJ (by omega)];row_lines H1 x2;refine Cr (bx.of (s2 _ _ g1)) (bx.of g2) ?_;exact k H2 (s1.trans s2)
theorem OM{c:TT}{D:Ends}(W:Nat->L2.St->Hp->Prop)(P:L2.St->Hp->Prop)(m0:Nat)(w0:W m0 σ H)(fin:∀σ H,P σ H->D.nx σ H)(turn:(∀σ H,P σ H->D.nx σ H)->∀m σ H,W m σ H->c σ H λb H1=>if b=true then ∃N:L2.St->Hp->Prop,(∀σ' H',N σ' H'->∃m',m'<m/\W m' σ' H')/\tb { D with nx:=N,ct:=N,bk:=D.nx } σ H1 else D.nx σ H1):NO c tb D σ H:=⟨W,⟨m0,w0⟩,turn fin⟩
theorem MG{pl:Str->Prop}:∀{l:List Str},(∀z∈l,pl z)->bE.jj fU dg pl l l
 | [],_=> .nil
 | z::l,h=> .one z (h z Ab0) (MG λy hy=>h y (Aa8 _ hy))
theorem VI{xs:List Str}(h:z∈bE.sl xs i j):z∈xs:=Aq6 (Au7 h)
theorem Wo{xs:List Str}{sz t:Nat}(h:bE.wB xs i sz t)(hi:i<xs.length)(hs:1<=sz)(ht:1<=t):i+sz*(t - 1)<xs.length:=by
 have e:=congrArg Ah4 (h (t - 1) (by omega));unfold bE.sl at e;rw[Ac5,Ac5,Ad2,Ad2] at e;omega
theorem WK{xs:List Str}{sz t:Nat}(h:bE.wB xs i sz t)(hi:i+sz<=xs.length)(ht:1<=t)(hs:1<=sz):i+sz*t<=xs.length:=by
 have e:=congrArg Ah4 (h (t - 1) (by omega));unfold bE.sl at e;rw[Ac5,Ac5,Ad2,Ad2] at e;have:sz*t=sz*(t - 1)+sz:=by
  obtain⟨s,rfl⟩:∃s,t=s+1:=⟨t - 1,by omega⟩;rw[As5,AB0]
 omega
theorem TR{xs:List Str}(h:bE.jj fU dg (λz=>z∈xs) ws (bE.sl xs 0 i))(hi:i<xs.length):bE.jj fU dg (λz=>z∈xs) (ws++[xs.getD i ""]) (bE.sl xs 0 (i+1)):=by
 rw[<-bE.oN (xs:=xs) (i:=0) (m:=i) (j:=i+1) (by omega) (by omega),bE.sr (xs:=xs) (i:=i) (j:=i+1) (by omega) (by omega),bE.oM];rw[show xs.getD i ""=xs[i] by rw[Aa2,Aa3 hi];rfl];exact h.app (.one _ (Ah6 hi) .nil)
theorem Uj{xs:List Str}{sz t:Nat}(h:bE.jj fU dg (λz=>z∈xs) ws (bE.sl xs 0 i))(b:bE.wB xs i sz t)(hs:1<=sz)(ht:2<=t)(hi:i+sz*t<=xs.length)(h60:xs.length<=60):bE.jj fU dg (λz=>z∈xs) (ws++[fU t]++bE.sl xs i (i+sz)++[dg]) (bE.sl xs 0 (i+sz*t)):=by
 have m1:1*t<=sz*t:=AD1 _ hs;have m2:sz*2<=sz*t:=Ar4 _ ht;rw[<-bE.oN (xs:=xs) (i:=0) (m:=i) (j:=i+sz*t) (by omega) (by omega),bE.pM b];have g:=bE.jj.tM (fU:=fU) (cls:=dg) (plain:=λz=>z∈xs) t ht (by omega) (u:=bE.sl xs i (i+sz)) (λz=>by have:=bE.oK (xs:=xs) (i:=i) (j:=i+sz) (by omega);rw[z] at this;simp at this;omega) (MG λz hz=>VI hz) .nil;rw[Ap1] at g;have:=h.app g;simpa [Ah3] using this
theorem TK(i:∀z,pl z->pl' z){l:List Str}(h:bE.jj fU dg pl ws l):bE.jj fU dg pl' ws l:=by
 induction h with
 | nil=>exact .nil
 | one x px _ ih=>exact .one x (i _ px) ih
 | tM t t2 t60 hu _ _ zR zS=>exact .tM t t2 t60 hu zR zS
theorem QR{xs:List Str}(e:xs=us++us)(hu:us≠[])(h:bE.jj fU dg (λz=>z∈us) ws us):bE.jj fU dg (λz=>z∈xs) ([fU 2]++ws++[dg]) xs:=by
 have h':bE.jj fU dg (λz=>z∈xs) ws us:=TK (λz hz=>by rw[e];exact Aq3 _ hz) h;have g:=bE.jj.tM (fU:=fU) (cls:=dg) (plain:=λz=>z∈xs) 2 (Aa6 _) (by decide) hu h' .nil;rw[Ap1] at g;have e2:bE.rep us 2=xs:=by rw[e];simp[bE.rep]
 rw[e2] at g;simpa using g
theorem ifK{c:TT}{t u:TS}(h2:(∀H',Same H H'->t D σ H')->Mo c t u D σ H)(h1:∀H',Same H H'->t D σ H'):Mo c t u D σ H:=h2 h1
theorem OK:FD (us.map V.str) aV (aS ((i:Nat):Int))=(us.take i).map V.str:=by rw[JB (by omega),Ad3,Ap3]
theorem ZG:fU 2=("2(":Str):=by decide +kernel
noncomputable def BN:Nat->Sp
 | 0=>λ_ _ _ _=>False
 | n+1=>λvs H Q _=>∃(a:Addr) (xs:List Str) (x:Int),vs=[.ref a, .int x]/\H a=aS (.lst (xs.map V.str))/\xs≠[]/\xs.length<=60/\xs.length<2 ^ (n+1)/\∀H' p ws,Same H H'->H p=aV->H' p=aS (.lst (ws.map V.str))->bE.jj fU dg (λz=>z∈xs) ws xs->Q (.ref p) H'
noncomputable abbrev GrW(H:Hp)(a:Addr)(xs:List Str)(m:Nat)(σ:L2.St)(H':Hp):Prop:=∃(wp:Addr) (ws:List Str) (i:Nat) (x:Int) (x5 x6:Option V),σ=[aS (.ref a),aS (.int x),aS (nV (xs.length / 2)),aS (.ref wp),aS (nV i),x5,x6]/\i<=xs.length/\m=xs.length - i/\Same H H'/\H wp=aV/\H' wp=aS (.lst (ws.map V.str))/\bE.jj fU dg (λz=>z∈xs) ws (bE.sl xs 0 i)
noncomputable abbrev GrP(H:Hp)(a:Addr)(xs:List Str)(σ:L2.St)(H':Hp):Prop:=∃(wp:Addr) (ws:List Str) (x:Int) (x4 x5 x6:Option V),σ=[aS (.ref a),aS (.int x),aS (nV (xs.length / 2)),aS (.ref wp),x4,x5,x6]/\Same H H'/\H wp=aV/\H' wp=aS (.lst (ws.map V.str))/\bE.jj fU dg (λz=>z∈xs) ws xs
noncomputable abbrev GtW(H3:Hp)(a wp:Addr)(xs:List Str)(y:Int)(i sz m:Nat)(σ:L2.St)(H':Hp):Prop:=∃t:Nat,σ=[aS (.ref a),aS (.int y),aS (nV (xs.length / 2)),aS (.ref wp),aS (nV i),aS (nV sz),aS (nV t)]/\1<=t/\m=100 - t/\Same H3 H'/\bE.wB xs i sz t
noncomputable abbrev GtP(H3:Hp)(a wp:Addr)(xs:List Str)(y:Int)(i sz:Nat)(σ:L2.St)(H':Hp):Prop:=∃t:Nat,σ=[aS (.ref a),aS (.int y),aS (nV (xs.length / 2)),aS (.ref wp),aS (nV i),aS (nV sz),aS (nV t)]/\1<=t/\Same H3 H'/\bE.wB xs i sz t
noncomputable abbrev B7:Stmt:=top 67
theorem bR:bz ["_law_items","_law_number_here","_law_half","_law_words","_law_at","_law_size","_law_times_here"] ["_law_items","_law_number_here"] (Ah B7):=by w_left
theorem Hk(F:cR K "_law_grouped" "_law_grouped" B7 f fd)(T:Txt K mg c)(bD:bF P w K mg base "_law_mixed" 1 ["_law_cell","_law_k"] By)(cX:bF P w K mg base "_law_again" 1 ["_law_items","_law_at","_law_size","_law_times_here"] DR)(cN:bF P w K mg base "_law_grouped" (n+1) ["_law_items","_law_number_here"] (BN n)):bQ P w K mg base c6 (n+2) f fd ["_law_items","_law_number_here"] (BN (n+1)):=by
 tbr_iter (F.ok bR)
 .obtain⟨a,xs,x,rfl,ha,gh,h60,dZ,k⟩:=h;have hu:=hr.cC;have hlen:=Ae9.mpr gh;refine⟨_,(Ac (Am 2 bR.nd (Aj BZ (Ai (AF (K:=K)) rfl T.ow Aj3 (Aa (pv 0) Ab)) Ad))
   (Ac (Aw (PW.pt (Fl (Ak Bb (Aj A1 (pv 1) Ad) Ad (Ap _)) (Fl (Ak CI (pv 2) Ad (Ap _)) (En (Ak (DZ hu (K:=K)) (pv 0) (Aj Hg (AM (BY (K:=K)) (pv 0) A5 (AJ (pv 2))) Ad) (Ap _)))))) (Ae (Ao (Aj (Bs (K:=K)) (Aj (Bs (K:=K)) (As (Aa Af Ab)) (Ag cN hr (Aa (AM (BY (K:=K)) (pv 0) A5 (AJ (pv 2))) (Aa (Aj BZ (pv 1) Ad) Ab)))) (As (Aa Af Ab))))) Aq)
   (Ac (Am 3 bR.nd (As Ab))
   (Ac (Am 4 bR.nd Ad)
   (Ac (Js Al5 (Ak Ic (pv 4) (Ai (AF (K:=K)) rfl T.ow Aj3 (Aa (pv 0) Ab)) (Ap _)) (Ac (Am 5 bR.nd (Aj Av Ad (Aj A1 (Aj BZ (pv 1) Ad) Ad)))
   (Ac (Am 1 bR.nd (Ag bD (hr.mono (by omega)) (Aa (pv 1) (Aa (pv 4) Ab))))
   (Ac (Am 6 bR.nd Ad)
   (Ac (Js Al5 (PW.pt (Fl (Ak Bb (Aj A1 (pv 1) Ad) Ad (Ap _)) (En (A4 (Ag cX (hr.mono (by omega)) (Aa (pv 0) (Aa (pv 4) (Aa (pv 5) (Aa (pv 6) Ab))))))))) (Ae (Am 6 bR.nd (Aj Av (pv 6) Ad))))
   (Ae (Aw (PW.pt (Dm (Ak Bb (pv 6) Ad (Ap _)) (Cg (Ak CI (Aj Av (pv 4) (pv 5)) (Ai (AF (K:=K)) rfl T.ow Aj3 (Aa (pv 0) Ab)) (Ap _))))) (Ac (AL (Bl (K:=K) Aj0 Aj6 Aj7 A0 (pv 3) (Aa (AS (Bt (K:=K)) (pv 0) (pv 4) (λ_ _=>rfl)) Ab)))
   (Ae (Am 4 bR.nd (Aj Av (pv 4) Ad)))) (Ac (Am 3 bR.nd (Aj (Bs (K:=K)) (Aj (Bs (K:=K)) (Aj (Bs (K:=K)) (pv 3) (As (Aa (Aj JI (Au HJ rfl T.ow As6 (Aa (pv 6) Ab)) Af) Ab))) (AM (BY (K:=K)) (pv 0) (AJ (pv 4)) (AJ (Aj Av (pv 4) (pv 5))))) (As (Aa Af Ab))))
   (Ae (Am 4 bR.nd (Aj Av (pv 4) (Aj Ep (pv 5) (pv 6)))))))))))))
   (Ae (Ao (pv 3)))))))),?_⟩
  exists Ax (bx.of ha) ?_;w_fin;rw[Aa0];refine AE ⟨by decide,by decide⟩ ?_;rw[show ((xs.length:Nat):Int) / 2=((xs.length / 2:Nat):Int) by omega];walk_at "v";refine xJ (λσ' H'=>σ'=[aS (.ref a),aS (.int x),aS (nV (xs.length / 2)),aV,aV,aV,aV]/\Same H H') ?_ (λkey=>?_);rotate_left
  .exists AE (by decide) ?_;exists Az (λ_=>?_) (λ_=>key _ _ ⟨rfl,Same.refl _⟩);exists Az (λh2=>?_) (λ_=>key _ _ ⟨rfl,Same.refl _⟩);exists Bo (bx.of ha) ?_;rw[OK];row_lines H x1;exists Hv g1 (by decide) (by decide) (by rw[Aa0,Ac5];omega) ?_;rw[show (Ad1 ((2:Int).toNat) ((xs.take (xs.length / 2)).map V.str)).flatten=(xs.take (xs.length / 2)++xs.take (xs.length / 2)).map V.str by rw[Ac2];simp[Ad1]];row_lines H1 x2;refine Cr (bx.of ((s1.trans s2) _ _ ha)) (bx.of g2) ?_;exists Az (λhe=>?_) (λ_=>key _ _ ⟨rfl,s1.trans s2⟩);w_fin;row_lines H2 x3;w_fin;have s13:=s1.trans (s2.trans s3);refine Bo (bx.of (s13 _ _ ha)) ?_;rw[OK];row_lines H3 x4;exists AE ⟨by decide,by decide⟩ ?_;have aaU:xs.length<2 ^ n*2:=by rw[<-Nat.pow_succ];exact dZ
   have lC:(xs.take (xs.length / 2)).length=xs.length / 2:=by rw[Ac5];omega
   obtain⟨n',rfl⟩:∃n',n=n'+1:=by
    cases n with
    | zero=>exfalso;omega
    | succ n'=>exact⟨n',rfl⟩
   exists ⟨p4,xs.take (xs.length / 2),_,rfl,g4,λz=>by rw[z] at lC;simp at lC;omega,by omega,by omega,λH5 p5 ws s5 n5 g5 qg=>?_⟩;have sl5:=Cp qg;refine Ir (xs:=["2("]) ((s4.trans s5) _ _ g3) g5 (by show 1+_<=_;omega) ?_;row_lines H5 x6;w_fin;row_lines H6 x7;refine Ir (ys:=[")"]) (s7 _ _ g6) g7 (by rw[Aa5];show 1+_+1<=_;omega) ?_;row_lines H7 x8;have s18:=s13.trans (s4.trans (s5.trans (s6.trans s7)));refine k H8 p8 _ (s18.trans s8) (s18.free n8) g8 ?_;have:=QR he (λz=>by rw[z] at lC;simp at lC;omega) qg;rw[ZG] at this;exact this
  rintro _ H1 ⟨rfl,s1⟩;w_fin;row_lines H1 x2;w_fin;have s02:=s1.trans s2;have n02:=s1.free n2;refine OM (GrW H a xs) (GrP H a xs) xs.length ⟨p2,[],0,x,aV,aV,rfl,Ad4 _,rfl,s02,n02,g2,by rw[bE.oM];exact .nil⟩ ?_ (λkey=>?_)
  .rintro _ H3 ⟨wp,ws,x',x4,x5,x6,rfl,s3,n3,g3,qg⟩;w_fin;exact k H3 wp ws s3 n3 g3 qg
  rintro m _ H3 ⟨wp,ws,i,x',x5,x6,rfl,hi,rfl,s3,n3,g3,qg⟩;have sE:=s3 _ _ ha;exists Ax (bx.of sE) ?_;w_fin;rw[Aa0];refine Az (λh3=>?_) (λh3=>?_);rotate_left
  .have:i=xs.length:=by omega
   subst this;rw[bE.vo] at qg;exact key _ _ ⟨wp,ws,x',_,_,_,rfl,s3,n3,g3,qg⟩
  refine⟨_,λσ' H' h=>h,?_⟩;clear key;exists AE ⟨by decide,by decide⟩ ?_;exists AE (by decide) ?_;obtain⟨sz,esz,yG,sz3⟩:∃sz:Nat,1+x' / 7%3=((sz:Nat):Int)/\1<=sz/\sz<=3:=⟨(1+x' / 7%3).toNat,by omega,by omega,by omega⟩;w_fin;rw[esz];refine⟨x',_,rfl,⟨by omega,by omega⟩,?_⟩;generalize CD x' ((i:Nat):Int)=y;exists OM (GtW H3 a wp xs y i sz) (GtP H3 a wp xs y i sz) 99 ⟨1,rfl,Aa6 _,rfl,Same.refl _,λq hq=>by rw[show q=0 by omega];rfl⟩ ?_ (λkey=>?_);rotate_left
  .rintro m _ H4 ⟨t,rfl,t1,rfl,s4,vF⟩;have bl:=Wo vF (by omega) yG t1;have bt:1*(t - 1)<=sz*(t - 1):=AD1 _ yG;exists AE (by decide) ?_;exists Az (λ_=>?_) (λ_=>key _ _ ⟨t,rfl,t1,s4,vF⟩);exists ⟨a,xs,i,sz,t,rfl,s4 _ _ sE,by omega,sz3,by omega,λH5 s5=>?_⟩;exists Az (λhb=>?_) (λ_=>key _ _ ⟨t,rfl,t1,s4.trans s5,vF⟩);refine⟨_,λσ' H' h=>h,?_⟩;exists ⟨100 - (t+1),by omega,t+1,rfl,by omega,rfl,s4.trans s5,λq hq=>?_⟩;rcases Nat.lt_or_ge q t with h | h
   .exact vF q h
   .rw[show q=t by omega];exact hb
  rintro _ H4 ⟨t,rfl,t1,s4,vF⟩;have s34:=s3.trans s4;have yl:=s4 _ _ sE;have g4:=s4 _ _ g3;have aaB:=Cp qg;rw[bE.oK (by omega)] at aaB;walk_at "v"
  with_reducible refine ifK (λkk=>?_) (λH5 s5=>?_)
  rotate_left
  .have s35:=s34.trans s5;have g5:=s5 _ _ g4;exists mw (bx.of g5) ?_;w_fin;have ez:xs[i]?=aS (xs.getD i ""):=by rw[Aa2,Aa3 (by omega)];rfl
   refine AU (bx.of (s5 _ _ yl)) (AA (j:=i) (v:= .str (xs.getD i "")) (by rw[Ac1,ez];rfl)) ?_;exists BU g5 (by rw[Aa0];omega) ?_;exists ⟨xs.length - (i+1),by omega,wp,ws++[xs.getD i ""],i+1,y,_,_,rfl,by omega,rfl,AG s35 n3,n3,?_,TR qg (by omega)⟩;rw[upd_same,Ac2];rfl
  exists Az (λ_=>Mq (kk H4 (Same.refl _))) (λt1'=>?_);exists Ax (bx.of yl) ?_;w_fin;rw[Aa0];refine Az (λ_=>kk H4 (Same.refl _)) (λhle=>?_);clear kk;have bl:=WK vF (by omega) t1 yG;have bt:1*t<=sz*t:=AD1 _ yG;exists _,rfl,Ft (by omega);w_fin;have lo:=(OX t (by omega) (by omega)).2.2.2.1;unfold fU at lo;rw[Str.length_append,show nM.length=1 by decide +kernel] at lo;refine⟨_,_,rfl,rfl,by rw[Aj9,show (Ai9 "(").length=1 by decide +kernel];omega,?_⟩;w_fin;row_lines H4 x6;replace g6:H6 p6=aS (.lst ([fU t].map V.str)):=g6;refine Ir (s6 _ _ g4) g6 (by show _+1<=_;omega) ?_;row_lines H6 x7;w_fin;have ha7:=(s6.trans s7) _ _ yl;refine Bo (bx.of ha7) ?_;rw[show ((i:Nat):Int)+((sz:Nat):Int)=((i+sz:Nat):Int) by push_cast;rfl,LJ (by omega)];row_lines H7 x8;have ls:(bE.sl xs i (i+sz)).length=sz:=by rw[bE.oK (by omega)];omega
  refine Ir (s8 _ _ g7) g8 (by rw[Aa5];show _+1+_<=_;omega) ?_;row_lines H8 x9;w_fin;row_lines H9 x10;replace g10:H10 p10=aS (.lst ([dg].map V.str)):=g10;refine Ir (s10 _ _ g9) g10 (by rw[Aa5,Aa5];show _+1+_+1<=_;omega) ?_;row_lines H10 x11;exists AE (.inl ⟨by omega,by omega⟩) ?_;w_fin;rw[show ((i:Nat):Int)+((sz:Nat):Int)*((t:Nat):Int)=((i+sz*t:Nat):Int) by push_cast;rfl];have s410:=s6.trans (s7.trans (s8.trans (s9.trans s10)));refine⟨xs.length - (i+sz*t),by omega,p11,_,i+sz*t,y,_,_,rfl,by omega,rfl,s34.trans (s410.trans s11),(s34.trans s410).free n11,g11,Uj qg vF yG (by omega) bl h60⟩
theorem EV{f:Addr}{fd:Am7}(D:bJ K mg "_law_grouped" B7 ["_law_items","_law_number_here"] f fd)(T:Txt K mg c)(bD:bF P w K mg base "_law_mixed" 1 ["_law_cell","_law_k"] By)(cX:bF P w K mg base "_law_again" 1 ["_law_items","_law_at","_law_size","_law_times_here"] DR):∀n,bQ P w K mg base c6 (n+1) f fd ["_law_items","_law_number_here"] (BN n)
 | 0=>⟨λ_ _ _ _ h=>h.elim,λ_ _ _ _ _ _ _ _ _ _ _ _ _ h=>h.elim⟩
 | n+1=>Hk D.fn T bD cX (D.call (EV D T bD cX n))
noncomputable def Hd:Sp:=λvs H Q _=>∃v d x,vs=[v, .int x]/\Rp H FT 3 v (wI d)/\eG d/\∀H' p as w1 w2 w3 w4,Same H H'->H p=aV->dI H' p as (HR d w1 w2 w3 w4)->yC d w1 w2 w3 w4->Q (.ref p) H'
noncomputable def Km(l:List Nat):List Str:=if l=[] then ["-"] else []
theorem Qk(l:List Nat):[("tie":Str)]++l.map tN++Km l=("tie":Str)::Ly l:=by
 unfold Km Ly;by_cases z:l=[]
 .rw[bS z,bS z,z];rfl
 .rw[bG z,bG z,Ap1];rfl
theorem QN{α:Type}{xs:List α}{y:α}(h:i<xs.length):xs.take (i+1)=xs.take i++[xs.getD i y]:=by
 rw[AJ1,Aa3 h,Aa2,Aa3 h];rfl
noncomputable abbrev RwI(H:Hp)(a:Addr)(x:Int)(p3:Addr)(d:Dr)(w1:List Str)(i:Nat)(σ:L2.St)(H':Hp):Prop:=∃x3 as,σ=[aS (.ref a),aS (.int x),aS (.ref p3),x3]/\Same H H'/\dI H' p3 as ([[("shafts":Str),tN d.sh],[("treadles":Str),tN d.tr]]++[[("thread":Str)]++w1]++(d.ti.take i).map (λl=>("tie":Str)::Ly l))/\as.length=3+i
noncomputable abbrev Fy:Stmt:=top 64
theorem gG:bz ["_law_draft_here","_law_number_here","_law_rows_here","_law_tie"] ["_law_draft_here","_law_number_here"] (Ah Fy):=by w_left
theorem L9(F:cR K "_law_rows" "_law_rows" Fy f fd)(T:Txt K mg c)(cN:bF P w K mg base "_law_grouped" (6+1) ["_law_items","_law_number_here"] (BN 6))(bD:bF P w K mg base "_law_mixed" 1 ["_law_cell","_law_k"] By)(iI:bF P w K mg base "_law_pick" 1 ["_law_pick_here"] (GY K)):bQ P w K mg base c6 8 f fd ["_law_draft_here","_law_number_here"] Hd:=by
 tbr_iter (F.ok gG)
 .obtain⟨v,d,x,rfl,r1,ok,k⟩:=h;have hu:=hr.cC;obtain⟨m,a,v0,v1,v2,v3,v4,v5,v6,em,rfl,ha,q0,q1,q2,q3,q4,q5,q6⟩:=Pd r1;cases em;cases q0;cases q1;obtain⟨b2,rfl,e2,_,_⟩:=Kj q2;obtain⟨m3,b3,vs3,wF,rfl,e3,_,l3,_,wG⟩:=Ey q3;cases wF;obtain⟨m4,b4,vs4,em4,rfl,e4,_,l4,_,el4⟩:=Ey q4;cases em4;obtain⟨b5,rfl,e5,_,_⟩:=Mw q5;obtain⟨b6,rfl,e6,_,_⟩:=Mw q6;rw[Aa0] at l3 l4;refine⟨_,(Ac (Am 2 gG.nd (As (Aa (As (Aa Af (Aa (Au HJ rfl T.ow As6 (Aa (AS (IY (K:=K)) (pv 0) Ad (λ_ _=>rfl)) Ab)) Ab))) (Aa (As (Aa Af (Aa (Au HJ rfl T.ow As6 (Aa (AS (IY (K:=K)) (pv 0) Ad (λ_ _=>rfl)) Ab)) Ab))) Ab))))
   (Ac (AL (Bl (K:=K) Aj0 Aj6 Aj7 A0 (pv 2) (Aa (Aj (Bs (K:=K)) (As (Aa Af Ab)) (Ag cN hr (Aa (AD (Bp (K:=K) (AS (IY (K:=K)) (pv 0) Ad (λ_ _=>rfl))) (λ_ _ _ _=>AC) (λ_ _ _ _=>(Au HJ rfl T.ow As6 (Aa (pv 0) Ab)))) (Aa (Ag bD hr.mo (Aa (pv 1) (Aa Ad Ab))) Ab)))) Ab)))
   (Ac (EK Al5 rfl (Bp (K:=K) (AS (IY (K:=K)) (pv 0) Ad (λ_ _=>rfl))) (BB (i:=3) gG.nd rfl (Ao0 rfl)) (Ae (AL (Bl (K:=K) Aj0 Aj6 Aj7 A0 (pv 2) (Aa (Aj (Bs (K:=K)) (Aj (Bs (K:=K)) (As (Aa Af Ab)) (AD (Bp (K:=K) (pv 3)) (λ_ _ _ _=>AC) (λ_ _ _ _=>(Au HJ rfl T.ow As6 (Aa (pv 0) Ab))))) (Aj Hg (As (Aa Af Ab)) (Au NF rfl T.ow Ar3 (Aa (Bw (DZ hu (K:=K)) (pv 3) (As Ab) (Ap _)) Ab)))) Ab)))))
   (Ac (AL (Bl (K:=K) Aj0 Aj6 Aj7 A0 (pv 2) (Aa (Aj (Bs (K:=K)) (As (Aa Af Ab)) (Ag cN hr (Aa (AD (Bp (K:=K) (AS (IY (K:=K)) (pv 0) Ad (λ_ _=>rfl))) (λ_ _ _ _=>AC) (λ_ _ _ _=>(Ag iI hr.mo (Aa (pv 0) Ab)))) (Aa (Ag bD hr.mo (Aa (pv 1) (Aa Ad Ab))) Ab)))) Ab)))
   (Ac (AL (Bl (K:=K) Aj0 Aj6 Aj7 A0 (pv 2) (Aa (Aj (Bs (K:=K)) (As (Aa Af Ab)) (Ag cN hr (Aa (AS (IY (K:=K)) (pv 0) Ad (λ_ _=>rfl)) (Aa (Ag bD hr.mo (Aa (pv 1) (Aa Ad Ab))) Ab)))) Ab)))
   (Ac (AL (Bl (K:=K) Aj0 Aj6 Aj7 A0 (pv 2) (Aa (Aj (Bs (K:=K)) (As (Aa Af Ab)) (Ag cN hr (Aa (AS (IY (K:=K)) (pv 0) Ad (λ_ _=>rfl)) (Aa (Ag bD hr.mo (Aa (pv 1) (Aa Ad Ab))) Ab)))) Ab)))
   (Ae (Ao (pv 2))))))))),?_⟩
  exists GA (dj.of ha) (AA (j:=0) rfl) ?_;exists _,rfl,Ft (by have:=ok.s2;omega);w_fin;row_lines H x1;exists GA (dj.of (s1 _ _ ha)) (AA (j:=1) rfl) ?_;exists _,rfl,Ft (by have:=ok.t2;omega);w_fin;row_lines H1 x2;w_fin;row_lines H2 x3;have R3:dI H3 p3 [p1,p2] [[("shafts":Str),tN d.sh],[("treadles":Str),tN d.tr]]:=⟨g3,⟨s3 _ _ (s2 _ _ g1),s3 _ _ g2,trivial⟩,λz=>by
   rcases Aa7.mp z with z | z
   .rw[z,s2 _ _ g1] at n3;cases n3
   .rw[Ac9.mp z,g2] at n3;cases n3⟩
  have s03:=s1.trans (s2.trans s3);have f3:H p3=none:=s1.free (s2.free n3);clear n1 n2 g1 g2 s1 s2 s3;exists mw (bx.of R3.at') ?_;w_fin;row_lines H3 x4;exists GA (dj.of ((s03.trans s4) _ _ ha)) (AA (j:=2) rfl) ?_;w_fin;have e24:=(s03.trans s4) _ _ e2;refine⟨b2,rfl,⟨_,bx.of e24⟩,λD5 wK=>?_⟩;refine Cm (G:=λi=>tN (d.th.getD i 0)) (AH (bx.of e24) rfl) wK (by rw[Aa0];have:=ok.h2;omega) ?_ ?_
  .intro i H' R hi s kk;rw[Aa0] at hi;rw[getD_map (e:=0) hi];w_fin;exact⟨_,rfl,Ft (by have:=ok.yD _ (L2.getD_mem (y:=0) hi);omega),kk H' (Same.refl _)⟩
  intro H5 s5 g5;rw[Aa0,A7] at g5;exists ⟨x,1,rfl,⟨by decide,by decide⟩,?_⟩;exists ⟨D5,_,_,rfl,g5,ok.n1,by simpa using ok.h2,by have:=ok.h2;rw[Aa0];show _<64;omega,λH6 p6 w1 s6 n6 g6 a1=>?_⟩;have lw1:=Cp a1;rw[Aa0] at lw1;have:=ok.h2;refine Ir (xs:=["thread"]) (s6 _ _ (s5 _ _ g4)) g6 (by show 1+_<=_;omega) ?_;row_lines H6 x7;w_fin;have s37:=s4.trans (s5.trans (s6.trans s7));have R7:=R3.same s37;refine BU R7.at' (by show 2<16777216;decide) ?_;have R8:=R7.put g7 (λz=>by rw[z,(s4.trans (s5.trans s6)) _ _ R3.at'] at n7;cases n7);have s08:=AG (s03.trans s37) f3 (o:=HO.lst ([p1,p2].map V.ref++[.ref p7]));generalize upd H7 p3 _=H8 at R8 s08 ⊢;clear R3 R7 s03 s37 s4 s5 s6 s7 g4 g5 g6 g7 n4 n6 n7 g3 e24 wK;have l8:([p1,p2]++[p7]).length=3:=rfl;generalize [p1,p2]++[p7]=as8 at R8 l8;exists GA (dj.of (s08 _ _ ha)) (AA (j:=3) rfl) ?_;exists ⟨b3,rfl,⟨_,bx.of (s08 _ _ e3)⟩,Ea (H0:=H) (LF (bx.of e3)) (RwI H a x p3 d w1) ⟨_,as8,rfl,s08,by rw[List.take_zero,At0,Ap1];exact R8,l8⟩ (λi σ H' h=>by obtain⟨_,_,_,s,_⟩:=h;exact s) ?_ ?_⟩
  .rintro i σ H9 H10 hi ⟨x3,as,rfl,s9,R9,l9⟩ s10;have gn:i<d.ti.length:=by omega
   have rm:d.ti.length<=16:=by have:=ok.il;have:=ok.t2;omega
   have r:=wG i (by simpa using gn);rw[L2.getD_map dL d.ti i .bC [] gn] at r;obtain⟨b,eb,pO,_,sF⟩:=Kj r;rw[eb];have hm:=L2.getD_mem (y:=[]) gn;have aaV:=ok.tiL _ hm;have s010:=s9.trans s10;have R10:=R9.same s10;exists mw (bx.of R10.at') ?_;w_fin;row_lines H10 x11;w_fin;have vG:=(s010.trans s11) _ _ pO;refine⟨b,rfl,⟨_,bx.of vG⟩,λyH sJ=>?_⟩;refine Cm (G:=λj=>tN ((d.ti.getD i []).getD j 0)) (AH (bx.of vG) rfl) sJ (by rw[Aa0];omega) ?_ ?_
   .intro j H' R hj s kk;rw[Aa0] at hj;rw[getD_map (e:=0) hj];w_fin;exact⟨_,rfl,Ft (by have:=ok.rm _ hm _ (L2.getD_mem (y:=0) hj);omega),kk H' (Same.refl _)⟩
   intro H12 s12 g12;rw[Aa0,A7] at g12;refine Ir (xs:=["tie"]) (s12 _ _ g11) g12 (by rw[Aa0];show 1+_<=_;omega) ?_;row_lines H12 x13;w_fin;row_lines H13 x14;w_fin;row_lines H14 x15;refine O9 (bx.of ((s12.trans (s13.trans (s14.trans s15))) _ _ vG)) (bx.of g15) ?_;exists _,rfl;have ed:(Ad1 (if decide (d.ti.getD i []=[])=true then (1:Int) else 0).toNat [V.str (Ai9 "-")]).flatten=(Km (d.ti.getD i [])).map V.str:=by
    unfold Km;by_cases z:d.ti.getD i []=[]
    .rw[iT z,bS rfl,bS z];rfl
    .rw[lI z,bG (by decide),bG z];rfl
   refine Hv (s15 _ _ g14) (by split <;> decide) (by split <;> decide) (by show 1<=100;decide) ?_;rw[ed];row_lines H15 x16;have ld:(Km (d.ti.getD i [])).length<=1:=by unfold Km;split <;> decide
   refine Ir (s14.trans (s15.trans s16) _ _ g13) g16 (by rw[Aa5,Aa0];show 1+_+_<=_;omega) ?_;row_lines H16 x17;w_fin;have s1016:=s11.trans (s12.trans (s13.trans (s14.trans (s15.trans s16))));have R17:=R10.same (s1016.trans s17);rw[Qk] at g17;refine BU R17.at' (by rw[Aa0];omega) ?_;have wM:=R17.put g17 (λz=>by rw[z,s1016 _ _ R10.at'] at n17;cases n17);exists ⟨_,as++[p17],rfl,AG (s010.trans (s1016.trans s17)) f3,?_,by rw[Aa5];show _+1=_;omega⟩;rw[Ah3] at wM;rw[QN gn,Ac2];exact wM
  .rintro σ H9 ⟨x3,as,rfl,s9,R9,l9⟩;rw[l3,Ah7] at R9;rw[l3] at l9;have rm:d.ti.length<=16:=by have:=ok.il;have:=ok.t2;omega
   w_fin;have p2':=ok.p2;have rH:=ok.h2;have wl':=ok.wl;have nB:=ok.fl;refine mw (bx.of R9.at') ?_;w_fin;row_lines H9 x11;w_fin;have s011:=s9.trans s11;refine GA (dj.of (s011 _ _ ha)) (AA (j:=4) rfl) ?_;exists ⟨b4,rfl,⟨_,bx.of (s011 _ _ e4)⟩,λyH sJ=>?_⟩;refine Cm (G:=λi=>BW (d.td.getD i [])) (AH (bx.of (s011 _ _ e4)) rfl) sJ (by omega) ?_ ?_
   .intro i H' R hi s kk;have gn:i<d.td.length:=by omega
    have r:=el4 i (by simpa using gn);rw[L2.getD_map dL d.td i .bC [] gn] at r;obtain⟨b,eb,pO,_,sF⟩:=Kj r;rw[eb];have hm:=L2.getD_mem (y:=[]) gn;w_fin;exact⟨b,_,rfl,(s011.trans s) _ _ pO,ok.tdL _ hm,λn hn=>ok.yE _ hm n hn,λH2 s2=>kk H2 s2⟩
   intro H12 s12 g12;rw[l4,A7 (f:=BW)] at g12;exists ⟨x,2,rfl,⟨by decide,by decide⟩,?_⟩;exists ⟨yH,_,_,rfl,g12,ok.n2,by simpa using ok.p2,by rw[Aa0];show _<64;omega,λH13 p13 w2 s13 n13 g13 a2=>?_⟩;have lw2:=Cp a2;rw[Aa0] at lw2;refine Ir (xs:=["tread"]) (s13 _ _ (s12 _ _ g11)) g13 (by show 1+_<=_;omega) ?_;row_lines H13 x14;w_fin;have s1014:=s11.trans (s12.trans (s13.trans s14));have R14:=R9.same s1014;refine BU R14.at' (by rw[Aa0];omega) ?_;have wN:=R14.put g14 (λz=>by rw[z,(s11.trans (s12.trans s13)) _ _ R9.at'] at n14;cases n14);have s015:=AG (s9.trans s1014) f3 (o:=HO.lst (as.map V.ref++[.ref p14]));generalize upd H14 p3 _=H15 at wN s015 ⊢;clear R9 R14 s9 s011 s1014 s11 s12 s13 s14 g11 g12 g13 g14 n11 n13 n14 sJ;have lA5:(as++[p14]).length<=20:=by rw[Aa5];show _+1<=_;omega
   generalize as++[p14]=vH at wN lA5;exists mw (bx.of wN.at') ?_;w_fin;row_lines H15 x16;w_fin;have s016:=s015.trans s16;refine GA (dj.of (s016 _ _ ha)) (AA (j:=5) rfl) ?_;exists ⟨x,3,rfl,⟨by decide,by decide⟩,?_⟩;exists ⟨b5,d.wa,_,rfl,s016 _ _ e5,ok.n3,by omega,by show _<64;omega,λH17 p17 w3 s17 n17 g17 a3=>?_⟩;have lw3:=Cp a3;refine Ir (xs:=["warp"]) (s17 _ _ g16) g17 (by show 1+_<=_;omega) ?_;row_lines H17 x18;w_fin;have s1518:=s16.trans (s17.trans s18);have wM:=wN.same s1518;refine BU wM.at' (by rw[Aa0];omega) ?_;have yI:=wM.put g18 (λz=>by rw[z,(s16.trans s17) _ _ wN.at'] at n18;cases n18);have s019:=AG (s015.trans s1518) f3 (o:=HO.lst (vH.map V.ref++[.ref p18]));generalize upd H18 p3 _=H19 at yI s019 ⊢;clear wN wM s015 s016 s1518 s16 s17 s18 g16 g17 g18 n16 n17 n18;have lA9:(vH++[p18]).length<=21:=by rw[Aa5];show _+1<=_;omega
   generalize vH++[p18]=aaC at yI lA9;exists mw (bx.of yI.at') ?_;w_fin;row_lines H19 x20;w_fin;have s020:=s019.trans s20;refine GA (dj.of (s020 _ _ ha)) (AA (j:=6) rfl) ?_;exists ⟨x,4,rfl,⟨by decide,by decide⟩,?_⟩;exists ⟨b6,d.we,_,rfl,s020 _ _ e6,ok.n4,by omega,by show _<64;omega,λH21 p21 w4 s21 n21 g21 a4=>?_⟩;have lw4:=Cp a4;refine Ir (xs:=["weft"]) (s21 _ _ g20) g21 (by show 1+_<=_;omega) ?_;row_lines H21 x22;w_fin;have s1922:=s20.trans (s21.trans s22);have R22:=yI.same s1922;refine BU R22.at' (by rw[Aa0];omega) ?_;have R23:=R22.put g22 (λz=>by rw[z,(s20.trans s21) _ _ yI.at'] at n22;cases n22);have s023:=AG (s019.trans s1922) f3 (o:=HO.lst (aaC.map V.ref++[.ref p22]));generalize upd H22 p3 _=H23 at R23 s023 ⊢;have eR:[[("shafts":Str),tN d.sh],[("treadles":Str),tN d.tr]]++[[("thread":Str)]++w1]++d.ti.map (λl=>("tie":Str)::Ly l)++[[("tread":Str)]++w2]++[[("warp":Str)]++w3]++[[("weft":Str)]++w4]=HR d w1 w2 w3 w4:=by
    unfold HR;simp only[Ah3,Aq8,AH6]
   rw[eR] at R23;w_fin;exact k H23 p3 _ w1 w2 w3 w4 s023 f3 R23 ⟨a1,a2,a3,a4⟩
noncomputable abbrev Rs(α:Type):=Except (Nat×Nat) α
noncomputable def fF{α β:Type}(m:Rs α)(f:α->Rs β):Rs β:=match m with
 | .ok a=>f a
 | .error e=> .error e
theorem Ar{α β:Type}{m:Rs α}{a:α}{f:α->Rs β}{r:Rs β}(h:m= .ok a)(k:f a=r):fF m f=r:=by rw[h];exact k
theorem AT{α β:Type}{m:Rs α}{e:Nat×Nat}{f:α->Rs β}(h:m= .error e):fF m f= .error e:=by rw[h];rfl
theorem Ll{α β:Type}{m:Rs α}{f:α->Rs β}{b:β}(h:fF m f= .ok b):∃a,m= .ok a/\f a= .ok b:=by
 cases m with
 | ok a=>exact⟨a,rfl,h⟩
 | error e=>cases h
noncomputable def nO:V->Nat
 | .int i=>i.toNat
 | _=>0
theorem Xq(z:Str):AI z= .bC\/AI z=nV (nO (AI z)):=by
 unfold AI;split
 .exact .inr rfl
 .exact .inl rfl
theorem CQ{a b:Int}(h:Be (AI z) a b=true):AI z=nV (nO (AI z))/\a<=(nO (AI z):Nat)/\((nO (AI z):Nat):Int)<=b:=by
 rcases Xq z with e | e
 .rw[e] at h;cases h
 .refine⟨e,?_⟩;rw[e] at h;have h:(decide (a<=((nO (AI z):Nat):Int))&&decide (((nO (AI z):Nat):Int)<=b))=true:=h;rw[Ab5,gi,gi] at h;exact h
noncomputable def kg(rows:List (List Str))(i:Nat)(nm:Str):Rs (List Str):=match rows[i]? with
 | none=> .error (i+1,0)
 | some r=>if ("":Str)∈r then .error (i+1,0) else if r.getD 0 ""=nm then .ok (r.drop 1) else .error (i+1,1)
noncomputable def ER(rows:List (List Str))(i:Nat)(nm:Str):Rs Nat:=fF (kg rows i nm) λws=>if ws=[]\/Be (AI (ws.getD 0 "")) 1 16=false then .error (i+1,2) else if 1<ws.length then .error (i+1,3) else .ok (nO (AI (ws.getD 0 "")))
noncomputable def BV(m:Nat):Nat->List Str->Nat
 | _,[]=>0
 | l,z::zs=>if Be (AI z) ((l+1:Nat):Int) (m:Nat)=true then BV m (nO (AI z)) zs+1 else 0
theorem G7{m l:Nat}{zs:List Str}:BV m l (z::zs)=if Be (AI z) ((l+1:Nat):Int) (m:Nat)=true then BV m (nO (AI z)) zs+1 else 0:=rfl
noncomputable abbrev AQ(ws:List Str):List Nat:=ws.map λz=>nO (AI z)
theorem Jr{m:Nat}:∀{ws:List Str} {l:Nat},BV m l ws<=ws.length
 | [],_=>Aa6 _
 | z::zs,l=>by
  unfold BV;split
  .exact Nat.succ_le_succ Jr
  .exact Ad4 _
theorem Er{m:Nat}:∀{ws:List Str} {l:Nat},BV m l ws=ws.length->CW l m (AQ ws)/\ws.map AI=(AQ ws).map nV
 | [],_,_=>⟨trivial,rfl⟩
 | z::zs,l,h=>by
  unfold BV at h;split at h
  .rename_i h1
   obtain⟨e,a1,a2⟩:=CQ h1;obtain⟨r1,r2⟩:=Er (ws:=zs) (by simpa using h);exact⟨⟨show l+1<=nO (AI z) by omega,show nO (AI z)<=m by omega,r1⟩,by rw[Ac3,r2,e];rfl⟩
  .cases h
noncomputable def Hr(rows:List (List Str))(i sh:Nat):Rs (List Nat):=fF (kg rows i "tie") λws=>if ws=[("-":Str)] then .ok [] else if ws.take 1=[("-":Str)] then .error (i+1,3) else if ws=[]\/BV sh 0 ws<ws.length then .error (i+1,BV sh 0 ws+2) else .ok (AQ ws)
noncomputable def ET(rows:List (List Str))(sh:Nat):Nat->Rs (List (List Nat))
 | 0=> .ok []
 | n+1=>fF (ET rows sh n) λls=>fF (Hr rows (3+n) sh) λl=> .ok (ls++[l])
theorem ON{rows:List (List Str)}{sh k:Nat}{e:Nat×Nat}(h:ET rows sh k= .error e):∀d,ET rows sh (k+d)= .error e
 | 0=>h
 | d+1=>AT (ON h d)
open Classical in
noncomputable def qh(fits:Str->Bool)(mx:Nat)(ws:List Str):Except Nat (List Str):=
 if h:∃out,(∃cn,rn fits mx ws=aS ⟨[out],[],cn⟩)/\ws≠[] then .ok h.choose else if h:∃p,Cb fits mx ws p then .error h.choose else .error 0
theorem JL(h:i<=j)(e:rn fits mx (ws.take i)=aV):rn fits mx (ws.take j)=none:=by
 obtain⟨d,rfl⟩:∃d,j=i+d:=⟨j - i,by omega⟩;unfold rn;rw[List.take_add,bE.lV,show bE.run dg fV fits mx M0 (ws.take i)=aV from e]
theorem MF(h1:1<=p)(h2:p<=ws.length)(hs:rn fits mx (ws.take (p - 1))=aS s)(e:bE.step dg fV fits mx s (ws.getD (p - 1) "")=aV):rn fits mx (ws.take p)=none:=by
 have:=Iy (show p - 1<ws.length by omega) hs;rw[show p - 1+1=p by omega] at this;rw[this,e]
theorem TQ(h:rn fits mx ws=aS ⟨[out],[],cn⟩)(gh:ws≠[])(e:Cb fits mx ws p):False:=by
 rcases e with ⟨s,h1,h2,hs,e⟩ | ⟨_,s,hs,e⟩
 .have:=JL h2 (MF h1 h2 hs e);rw[Ah7,h] at this;cases this
 .rw[h] at hs;cases hs;rcases e with e | e
  .exact e rfl
  .exact gh e
theorem TX(e:Cb fits mx ws p)(e':Cb fits mx ws q):p=q:=by
 have key:∀{p q:Nat},Cb fits mx ws p->Cb fits mx ws q->q<p->False:=λ{p q} e e' dZ=>by
  rcases e' with ⟨s',g1,g2,hs',f⟩ | ⟨rfl,_⟩
  .have n:=MF g1 g2 hs' f;rcases e with ⟨s,h1,h2,hs,_⟩ | ⟨_,s,hs,_⟩
   .have:=JL (show q<=p - 1 by omega) n;rw[hs] at this;cases this
   .have:=JL g2 n;rw[Ah7,hs] at this;cases this
  .rcases e with ⟨s,h1,h2,_,_⟩ | ⟨h,_⟩ <;> omega
 rcases Nat.lt_trichotomy p q with h | h | h
 .exact(key e' e h).elim
 .exact h
 .exact(key e e' h).elim
theorem N3(h:rn fits mx ws=aS ⟨[out],[],cn⟩)(gh:ws≠[]):qh fits mx ws= .ok out:=by
 have q:∃out,(∃cn,rn fits mx ws=aS ⟨[out],[],cn⟩)/\ws≠[]:=⟨out,⟨cn,h⟩,gh⟩;unfold qh;rw[dif_pos q];obtain⟨⟨cn',e⟩,_⟩:=q.choose_spec;have e:=h.symm.trans e;injection e with e;injection e with e1 _ _;injection e1 with e1 _;rw[<-e1]
theorem SK(h:Cb fits mx ws p):qh fits mx ws= .error p:=by
 unfold qh;rw[dif_neg (λ⟨out,⟨cn,e⟩,gh⟩=>TQ e gh h)];have q:∃p,Cb fits mx ws p:=⟨p,h⟩;rw[dif_pos q,TX q.choose_spec h]
noncomputable def iR(rows:List (List Str))(i:Nat)(nm:Str)(fits:Str->Bool)(mx least:Nat):Rs (List Str):=fF (kg rows i nm) λws=>match qh fits mx ws with
 | .error p=> .error (i+1,p+1)
 | .ok out=>if out.length<least then .error (i+1,ws.length+2) else .ok out
noncomputable def fN(sh:Nat)(z:Str):Bool:=Be (AI z) 0 (sh:Nat)
noncomputable def fP(tr:Nat)(z:Str):Bool:=decide (BV tr 0 (A2 z)=(A2 z).length)
noncomputable def eZ:List Str:=(Ab7 26).map λi=>⟨#[97+i]⟩
noncomputable def fC(z:Str):Bool:=decide (z∈eZ)
noncomputable def RD(rows:List (List Str)):Rs Dr:=
 fF (ER rows 0 "shafts") λsh=>fF (ER rows 1 "treadles") λtr=>fF (iR rows 2 "thread" (fN sh) 60 1) λth=>fF (ET rows sh tr) λti=>fF (iR rows (tr+3) "tread" (fP tr) 60 1) λtd=>
 fF (iR rows (tr+4) "warp" fC th.length th.length) λwa=>fF (iR rows (tr+5) "weft" fC td.length td.length) λwe=>if tr+6<rows.length then .error (tr+7,0) else .ok ⟨sh,tr,AQ th,ti,td.map λz=>AQ (A2 z),wa,we⟩
noncomputable def BA(c:Cs):Sp:=λvs H Q _=>∃(a:Addr) (r m:Nat),vs=[.ref a,nV r,nV m]/\H a=aS (iW a c.bM aV)/\r<1000/\m<1000/\
 ∀dx H',H dx=aV->(∀b o,H b=aS o->b≠a->H' b=aS o)->H' a=aS (iW a c.bM (aS dx))->H' dx=aS (jR dx [("row",nV r),("word",nV m)])->Q .bC H'
noncomputable abbrev B0:Stmt:=BE (top 6) 0
theorem Gx:bz ["self","row","word"] ["self","row","word"] (Ah B0):=by w_left
theorem Dj(F:cR K "__init__" "BadRow.__init__" B0 f fd)(T:Txt K mg c):lD P w K mg base 1 f fd ["self","row","word"] (BA c):=by
 tbr_iter (F.okA Gx)
 .obtain⟨a,r,m,rfl,ha,nk,hm1,k⟩:=h;refine⟨_,(Ac (AL (MX (K:=K) T.iz T.jF (Aa (pv 0) (Aa (KY (Cw Af (Cw (NI (pv 1)) (Cw Af (Cw (NI (pv 2)) (Cw Af O0)))))) Ab))))
   (Ac (Lk (K:=K) (pv 0) (pv 1) rfl)
   (Ae (Lk (K:=K) (pv 0) (pv 2) rfl)))),?_⟩
  exists Nt ?_;exists DD ?_;exists ⟨_,rfl,by decide +kernel,?_⟩;refine DD ?_;refine NW ?_;w_fin;have hl:=MN.lQ (i:=((r:Nat):Int)) (by omega) (by omega);have lC:=MN.lQ (i:=((m:Nat):Int)) (by omega) (by omega);have h1:(Ar0++Ai9 "row ").length=4:=by decide +kernel
  have h2:(Ai9 ", word ").length=7:=by decide +kernel
  have h3:(Ai9 " can't stand").length=12:=by decide +kernel
  refine .inl ⟨_,rfl,Ho nk,_,rfl,?_,?_⟩
  .rw[Ak6];omega
  refine DD ?_;exists _,rfl,?_
  .rw[Ak6,Ak6];omega
  refine DD ?_;refine NW ?_;exists .inl ⟨_,rfl,Ho hm1,_,rfl,?_,?_⟩
  .rw[Ak6,Ak6,Ak6];omega
  refine DD ?_;exists _,rfl,?_
  .rw[Ak6,Ak6,Ak6,Ak6];omega
  refine KH ?_;w_fin;obtain⟨fi,hfi⟩:=T.qc;refine⟨a,_,_,fi,_,rfl,ha,hfi,?_⟩;exists Lj ?_;exists ⟨a,_,_,rfl,ha,T.lF,Gk T.i0, .inl ⟨rfl,λdx iQ=>?_⟩⟩;exists Lj ?_;w_fin;have nd:dx≠a:=λz=>by rw[z,ha] at iQ;cases iQ
  refine⟨a,_,_,rfl,upd_same,T.lF,Gk T.iC, .inr ⟨dx,_,rfl,by rw[An nd,upd_same],by show 1<1000;decide,?_⟩⟩;refine k dx _ iQ (λb o e nb=>?_) ?_ upd_same
  .have n2:b≠dx:=λz=>by rw[z,iQ] at e;cases e
   rw[An n2,An nb,An n2];exact e
  .rw[An (Ak9 nd),upd_same]
theorem BS{c:Cs}{E:XK}(hr:r<1000)(hm:m<1000)(h:∀H' dx,Same H H'->H' dx=aS (jR dx [("row",nV r),("word",nV m)])->E (.ref c.bM) (aS dx) H'):
  ([nV r,nV m]:List V).length<=900/\∀a,H a=aV->BA c (.ref a::[nV r,nV m]) (upd H a (iW a c.bM aV)) (λv H2=>v= .bC/\∃od,H2 a=aS (iW a c.bM od)/\E (.ref c.bM) od (bar a H2)) E0:=by
 refine⟨by simp,λa ha=>⟨a,r,m,rfl,upd_same,hr,hm,λdx H' iQ kp ea ed=>⟨rfl,aS dx,ea,?_⟩⟩⟩;have nd:dx≠a:=λz=>by rw[z,upd_same] at iQ;cases iQ
 refine h _ dx (λb o e=>?_) ?_
 .have nb:b≠a:=λz=>by rw[z,ha] at e;cases e
  rw[Gf nb];exact kp b o (by rw[An nb];exact e) nb
 .rw[Gf nd];exact ed
noncomputable def mj(c:Cs)(E:XK)(H:Hp)(r m:Nat):Prop:=∀H' dx,Same H H'->H' dx=aS (jR dx [("row",nV r),("word",nV m)])->E (.ref c.bM) (aS dx) H'
theorem mj.same{E:XK}(h:mj c E H r m)(s:Same H H'):mj c E H' r m:=λH2 dx s2 e=>h H2 dx (s.trans s2) e
noncomputable def HY:Sp:=λvs H Q _=>∃z:Str,vs=[.str z]/\z.length<=100000/\(("":Str)∈Ai8 z " "->∀H',Same H H'->Q .bC H')/\(("":Str)∉Ai8 z " "->∀H' p,Same H H'->H p=aV->H' p=aS (.lst ((Ai8 z " ").map V.str))->Q (.ref p) H')
noncomputable abbrev Ge:Stmt:=top 23
theorem j9:bz ["row","words"] ["row"] (Ah Ge):=by w_left
theorem Mh(F:cR K "words_of" "words_of" Ge f fd)(T:Txt K mg c):bQ P w K mg base c6 1 f fd ["row"] HY:=by
 tbr_iter (F.ok j9)
 .obtain⟨z,rfl,hl,k1,k2⟩:=h;refine⟨_,(Ac (Aw (BI (A4 (Ai (BP (K:=K)) rfl T.ow Aj1 (Aa (pv 0) (Aa (Ca rfl T.ow As6) Ab))))) (Ae (Ao AV)) Aq)
   (Ac (Am 1 j9.nd (Bl (K:=K) Aj5 Al2 An1 FU (pv 0) (Aa Af Ab)))
   (Ac (Aw (Ak (XX (K:=K)) Af (pv 1) (by with_unfolding_all rfl)) (Ae (Ao AV)) Aq)
   (Ae (Ao (pv 1)))))),?_⟩
  exists Bi (.str _) (kb (b:=true) (by decide +kernel)) ?_;exists rK ?_;exists ⟨_,_,rfl,rfl,by decide,by rw[Aj9];omega,?_⟩;row_lines H x1;exists ⟨p1,_,rfl, .inl (bx.of g1),rfl,by simp[Bx],?_⟩;rw[FM];by_cases hn:("":Str)∈Ai8 z " "
  .rw[iT hn];w_fin;exact k1 hn H1 s1
  .rw[lI hn];w_fin;rw[bG (show ¬ (if false=true then !false else false)=true by decide)];w_fin;exact k2 hn H1 p1 s1 n1 g1
structure k8(H:Hp)(a:Addr)(rs:List Str)(rows:List (List Str)):Prop where
 at':H a=aS (.lst (rs.map V.str))
 eq:rows=rs.map λr=>Ai8 r " "
 le:rs.length<=900
 len:∀r∈rs,r.length<=100000
 wl:∀r∈rows,r.length<=200/\∀z∈r,z.length<=100
theorem G6(h:z.cps.toList=[]):z="":=by
 obtain⟨⟨l⟩⟩:=z;have h:l=[]:=h;subst h;decide +kernel
theorem Ql(z:Str):Ai8 z " "≠[]:=by
 by_cases h:z.cps.toList=[]
 .rw[G6 h];decide +kernel
 .intro e;have:=MS.fm z 32 (by decide) h;rw[So] at e;rw[e] at this;exact MS.jO 32 _ this.symm
noncomputable def Bf(c:Cs):Sp:=λvs H Q E=>∃(a:Addr) (rs:List Str) (rows:List (List Str)) (i:Nat) (nm:Str),vs=[.ref a,nV (i+1), .str nm]/\k8 H a rs rows/\i<100/\
 (∀ws H' p,kg rows i nm= .ok ws->ws.length<=200->(∀z∈ws,z.length<=100)->Same H H'->H p=aV->H' p=aS (.lst (ws.map V.str))->Q (.ref p) H')/\∀r w,kg rows i nm= .error (r,w)->mj c E H r w
noncomputable abbrev C5:Stmt:=top 44
theorem gU:bz ["rows","number","name","words"] ["rows","number","name"] (Ah C5):=by w_left
theorem Ih(F:cR K "words_behind" "words_behind" C5 f fd)(T:Txt K mg c)(jr:bF P w K mg base "words_of" 1 ["row"] HY)(bY:B5 P w K mg base "BadRow" c.bM 1 ["self","row","word"] (BA c)):bQ P w K mg base (cW P w) 3 f fd ["rows","number","name"] (Bf c):=by
 tbr_iter (cR.uS F gU)
 .obtain⟨a,rs,rows,i,nm,rfl,ra,hi,kQ,kE⟩:=h;refine⟨_,(Ac (Am 3 gU.nd (C1 (Ak IK (pv 1) (Ai (AF (K:=K)) rfl T.ow Aj3 (Aa (pv 0) Ab)) (Ap _)) (Ag jr hr.mo (Aa (AS (Bt (K:=K)) (pv 0) (Aj FE (pv 1) Ad) (λ_ _=>rfl)) Ab)) AV))
   (Ac (Aw (Ak Fq (pv 3) AV (Ap _)) (Ae (Bq bY hr (Aa (pv 1) (Aa Ad Ab)))) Aq)
   (Ac (Aw (Ak JH (AS (Bt (K:=K)) (pv 3) Ad (λ_ _=>rfl)) (pv 2) (Ap _)) (Ae (Bq bY hr (Aa (pv 1) (Aa Ad Ab)))) Aq)
   (Ae (Ao (AM (BY (K:=K)) (pv 3) (AJ Ad) A5)))))),?_⟩
  exists Ax (bx.of ra.at') ?_;rw[Aa0];w_fin;have le:=ra.le;refine ifE (λv H'=>Same H H'/\((v= .bC/\kg rows i nm= .error (i+1,0))\/∃p,v= .ref p/\H p=aV/\H' p=aS (.lst ((rows.getD i []).map V.str))/\rows[i]?=aS (rows.getD i [])/\rows.getD i []≠[]/\("":Str)∉rows.getD i [])) ?_ (λR key=>?_);rotate_left
  .refine Az (λh1=>?_) (λh1=>?_)
   .have hl:i<rs.length:=by omega
    have ez:rs[i]?=aS (rs.getD i ""):=by rw[Aa2,Aa3 hl];rfl
    have er:rows[i]?=aS (Ai8 (rs.getD i "") " "):=by rw[ra.eq,Ac1,ez];rfl
    have eg:rows.getD i []=Ai8 (rs.getD i "") " ":=by rw[Aa2,er];rfl
    w_fin;rw[show ((i+1:Nat):Int) - 1=((i:Nat):Int) by omega];refine AU (bx.of ra.at') (AA (j:=i) (by rw[Ac1,ez];rfl)) ?_;exists ⟨_,rfl,ra.len _ (Ad0 ez),λhn H1 s1=>key _ _ ⟨s1, .inl ⟨rfl,?_⟩⟩,λhn H1 p1 s1 n1 g1=>key _ _ ⟨s1, .inr ⟨p1,rfl,n1,by rw[eg];exact g1,by rw[eg];exact er,by rw[eg];exact Ql _,by rw[eg];exact hn⟩⟩⟩;unfold kg;rw[er];exact bS hn
   .exists key _ _ ⟨Same.refl _, .inl ⟨rfl,?_⟩⟩;unfold kg;rw[Ai3 (by rw[ra.eq,Aa0];omega)]
  rintro v H1 ⟨s1,(⟨rfl,e⟩ | ⟨p,rfl,np,gp,er,gh,hn⟩)⟩
  .exists ⟨rfl,?_⟩;exists Az (λ_=>?_) (λq=>bV rfl q);exists Bz ?_;w_fin;exact BS (by omega) (by decide) ((kE _ _ e).same s1)
  .have hm:=Ad0 er;obtain⟨w1,w2⟩:=ra.wl _ hm;generalize rows.getD i []=r at gp er gh hn hm w1 w2;obtain⟨z,zs,rfl⟩:∃z zs,r=z::zs:=by
    cases r with
    | nil=>exact bV rfl gh
    | cons z zs=>exact⟨z,zs,rfl⟩
   exists ⟨rfl,?_⟩;exists Az (λq=>by cases q) (λ_=>?_);exists AU (bx.of gp) (AA (j:=0) (v:= .str z) rfl) ?_;exists FX (λq=>?_) (λq=>?_)
   .exists Bz ?_;exists BS (by omega) (by decide) ((kE _ _ ?_).same s1);unfold kg;rw[er];show (if _ then _ else if z=nm then _ else _)=_;rw[bG hn,bG q]
   .exists Bo (bx.of gp) ?_;rw[Hc (by decide),show (z::zs).map V.str=V.str z::zs.map V.str from rfl,show ((1:Int).toNat)=1 from rfl,List.drop_one,List.tail_cons];row_lines H1 x2;refine kQ zs H2 p2 ?_ (by rw[Aa9] at w1;omega) (λy hy=>w2 y (Aa8 _ hy)) (s1.trans s2) (s1.free n2) g2;unfold kg;rw[er];show (if _ then _ else if z=nm then _ else _)=_;rw[bG hn,bS q];rfl
noncomputable def F4(c:Cs):Sp:=λvs H Q E=>∃(a:Addr) (rs:List Str) (rows:List (List Str)) (i:Nat) (nm:Str),vs=[.ref a,nV (i+1), .str nm,nV 16]/\k8 H a rs rows/\i<100/\
 (∀n H',ER rows i nm= .ok n->1<=n->n<=16->Same H H'->Q (nV n) H')/\∀r w,ER rows i nm= .error (r,w)->mj c E H r w
noncomputable abbrev EG:Stmt:=top 45
theorem jc:bz ["rows","number","name","most","words"] ["rows","number","name","most"] (Ah EG):=by w_left
theorem Kc(F:cR K "read_count" "read_count" EG f fd)(T:Txt K mg c)(bI:BJ P w K mg base "words_behind" 3 ["rows","number","name"] (Bf c))(bH:bF P w K mg base "number_of" 3 ["word"] BD)(bB:bF P w K mg base "is_among" 2 ["thing","least","most"] (Bg K))(bY:B5 P w K mg base "BadRow" c.bM 1 ["self","row","word"] (BA c)):bQ P w K mg base (cW P w) 4 f fd ["rows","number","name","most"] (F4 c):=by
 tbr_iter (cR.uS F jc)
 .obtain⟨a,rs,rows,i,nm,rfl,ra,hi,kQ,kE⟩:=h;refine⟨_,(Ac (Am 4 jc.nd (Bk bI hr Dz (Aa (pv 0) (Aa (pv 1) (Aa (pv 2) Ab)))))
   (Ac (Aw (PW.pt (Dm (Ak Bb (Ai (AF (K:=K)) rfl T.ow Aj3 (Aa (pv 4) Ab)) Ad (Ap _)) (Cg (BI (A4 (Ag bB hr.mo (Aa (Ag bH hr (Aa (AS (Bt (K:=K)) (pv 4) Ad (λ_ _=>rfl)) Ab)) (Aa Ad (Aa (pv 3) Ab))))))))) (Ae (Bq bY hr.mo (Aa (pv 1) (Aa Ad Ab)))) Aq)
   (Ac (Aw (Ak CI (Ai (AF (K:=K)) rfl T.ow Aj3 (Aa (pv 4) Ab)) Ad (Ap _)) (Ae (Bq bY hr.mo (Aa (pv 1) (Aa Ad Ab)))) Aq)
   (Ae (Ao (Ag bH hr (Aa (AS (Bt (K:=K)) (pv 4) Ad (λ_ _=>rfl)) Ab))))))),?_⟩
  exists ⟨a,rs,rows,i,nm,rfl,ra,hi,λws H1 p e wl wz s1 n1 g1=>?_,λr w e=>kE r w (AT e)⟩;exists Ax (bx.of g1) ?_;rw[Aa0];have er:∀D:Ends,∀H2,Same H H2->∀m:Nat,m<1000->ER rows i nm= .error (i+1,m)->FR E c.bM (BA c) (Ia (N0 1) (Ia (tC (nV m)) MC)) D [aS (.ref a),aS (nV (i+1)),aS (.str nm),aS (nV 16),aS (.ref p)] H2:=λD H2 s2 m hm e=>by
   refine Bz ?_;w_fin;exact BS (by omega) hm ((kE _ _ e).same s2)
  w_fin;cases ws with
  | nil=>
   refine Az (λ_=>?_) (λq=>bV rfl q);w_fin;exact er _ H1 s1 2 (by decide) (Ar e (bS (.inl rfl)))
  | cons z zs=>
   have hz:=wz z Ab0;refine Az (λq=>bV q (by rw[Aa9];omega)) (λ_=>?_);exists AU (bx.of g1) (AA (j:=0) (v:= .str z) rfl) ?_;exists ⟨z,rfl,hz,λH2 s2=>?_⟩;exists _,_,_,rfl,IF _;cases ha:Be (AI z) 1 16 with
   | false=>
    w_fin;exact er _ H2 (s1.trans s2) 2 (by decide) (Ar e (bS (.inr ha)))
   | true=>
    obtain⟨e1,e2,e3⟩:=CQ ha;exists Ax (bx.of (s2 _ _ g1)) ?_;rw[Aa0];w_fin;have hn:¬ ((z::zs)=[]\/Be (AI ((z::zs).getD 0 "")) 1 16=false):=λq=>q.elim (λq=>by cases q) (λq=>by have q:Be (AI z) 1 16=false:=q;rw[ha] at q;cases q);refine Az (λq=>?_) (λq=>?_)
    .w_fin;exact er _ H2 (s1.trans s2) 3 (by decide) (Ar e ((bG hn).trans (bS (by omega))))
    .exists AU (bx.of (s2 _ _ g1)) (AA (j:=0) (v:= .str z) rfl) ?_;exists ⟨z,rfl,hz,λH3 s3=>?_⟩;rw[e1];exact kQ _ H3 (Ar e ((bG hn).trans (bG (by omega)))) (by omega) (by omega) (s1.trans (s2.trans s3))
noncomputable def CH:Sp:=λvs H Q _=>∃(a:Addr) (ws:List Str) (m:Nat),vs=[.ref a,nV m]/\H a=aS (.lst (ws.map V.str))/\ws.length<=1000/\(∀z∈ws,z.length<=100)/\∀H',Same H H'->Q (nV (BV m 0 ws)) H'
noncomputable abbrev CZ:Stmt:=top 46
theorem cK:bz ["words","most","last","many","word","number"] ["words","most"] (Ah CZ):=by w_left
theorem Ip(F:cR K "rising_words" "rising_words" CZ f fd)(T:Txt K mg c)(bH:bF P w K mg base "number_of" 3 ["word"] BD)(bB:bF P w K mg base "is_among" 2 ["thing","least","most"] (Bg K)):bQ P w K mg base c6 4 f fd ["words","most"] CH:=by
 tbr_iter (F.ok cK)
 .obtain⟨a,ws,m,rfl,ha,hl,hz,k⟩:=h;refine⟨_,(Ac (Am 2 cK.nd Ad)
   (Ac (EK Al5 rfl (L4 (K:=K) rfl T.ow (Aa (pv 0) Ab)) (NA (K:=K) rfl (Cv (BB (i:=3) cK.nd rfl (Ao0 rfl)) (Cv (BB (i:=4) cK.nd rfl (Ao0 rfl)) IA))) (Ac (Am 5 cK.nd (Ag bH hr (Aa (pv 4) Ab)))
   (Ac (Aw (BI (A4 (Ag bB hr.mo (Aa (pv 5) (Aa (Aj Av (pv 2) Ad) (Aa (pv 1) Ab)))))) (Ae (Ao (pv 3))) Aq)
   (Ae (Am 2 cK.nd (pv 5))))))
   (Ae (Ao (Ai (AF (K:=K)) rfl T.ow Aj3 (Aa (pv 0) Ab)))))),?_⟩
  exists ⟨a,rfl,⟨_,bx.of ha⟩,Mv (xs:=ws.map V.str) (λi σ H'=>∃(last:Nat) (x3 x4 x5:Option V),σ=[aS (.ref a),aS (nV m),aS (nV last),x3,x4,x5]/\Same H H'/\BV m 0 ws=i+BV m last (ws.drop i)) ⟨0,_,_,_,rfl,Same.refl _,(AG4 _).symm⟩ (λi σ H' _ ⟨_,_,_,_,_,s,_⟩=>bx.of (s _ _ ha)) ?_ ?_⟩
  .rintro i x σ H1 p hx ⟨last,x3,x4,x5,rfl,s1,nk⟩ hp;rw[Ac1] at hx;obtain⟨z,ez,rfl⟩:=Ae5.mp hx;have hi:=(Ab8.mp ez).1;have ed:ws.drop i=z::ws.drop (i+1):=by
    rw[Af7 hi];rw[Aa3 hi] at ez;rw[Ae1.inj ez]
   rw[ed] at nk;rw[G7] at nk;have s2:=Al (o:=HO.tup [.int (i:Nat), .str z]) hp;exists ⟨z,rfl,hz _ (Ad0 ez),λH3 s3=>?_⟩;exists _,_,_,rfl,IF _;rw[show ((last:Nat):Int)+1=((last+1:Nat):Int) by omega];have s13:=s1.trans (s2.trans s3);cases ha:Be (AI z) ((last+1:Nat):Int) (m:Nat) with
   | false=>
    rw[bG (by rw[ha];decide)] at nk;w_fin;have:=k H3 s13;rw[nk] at this;exact this
   | true=>
    rw[bS ha] at nk;obtain⟨e1,_,_⟩:=CQ ha;w_fin;exact⟨nO (AI z),_,_,_,by rw[<-e1];rfl,s13,by omega⟩
  .rintro σ H1 ⟨last,x3,x4,x5,rfl,s1,nk⟩;rw[Aa0,List.drop_length] at nk;exists Ax (bx.of (s1 _ _ ha)) ?_;rw[Aa0];have:=k H1 s1;rw[nk] at this;exact this
noncomputable def HQ(c:Cs):Sp:=λvs H Q E=>∃(a:Addr) (rs:List Str) (rows:List (List Str)) (i m:Nat),vs=[.ref a,nV (i+1),nV m]/\k8 H a rs rows/\i<100/\m<=16/\
 (∀l H' p,Hr rows i m= .ok l->l.length<=16->Same H H'->H p=aV->H' p=aS (.lst (l.map nV))->Q (.ref p) H')/\∀r w,Hr rows i m= .error (r,w)->mj c E H r w
noncomputable abbrev Gn:Stmt:=top 47
theorem iJ:bz ["rows","number","shafts","words","stand"] ["rows","number","shafts"] (Ah Gn):=by w_left
theorem Ng(F:cR K "read_tie" "read_tie" Gn f fd)(T:Txt K mg c)(bI:BJ P w K mg base "words_behind" 3 ["rows","number","name"] (Bf c))(cO:bF P w K mg base "rising_words" 4 ["words","most"] CH)(cy:bF P w K mg base "numbers_told" 4 ["words"] BM)(bY:B5 P w K mg base "BadRow" c.bM 1 ["self","row","word"] (BA c)):bQ P w K mg base (cW P w) 5 f fd ["rows","number","shafts"] (HQ c):=by
 tbr_iter (cR.uS F iJ)
 .obtain⟨a,rs,rows,i,m,rfl,ra,hi,hm,kQ,kE⟩:=h;have hu:=hr.cC;refine⟨_,(Ac (Am 3 iJ.nd (Bk bI hr.mo Dz (Aa (pv 0) (Aa (pv 1) (Aa Af Ab)))))
   (Ac (Aw (Ak (DZ hu (K:=K)) (pv 3) (As (Aa (Fc T.o6) Ab)) (Ap _)) (Ae (Ao (As Ab))) Aq)
   (Ac (Am 4 iJ.nd (C1 (Ak (DZ hu (K:=K)) (AM (BY (K:=K)) (pv 3) A5 (AJ Ad)) (As (Aa (Fc T.o6) Ab)) (Ap _)) Ad (Ag cO hr (Aa (pv 3) (Aa (pv 2) Ab)))))
   (Ac (Aw (PW.pt (Dm (Ak Ic (pv 4) (Ai (AF (K:=K)) rfl T.ow Aj3 (Aa (pv 3) Ab)) (Ap _)) (Cg (Ak Bb (Ai (AF (K:=K)) rfl T.ow Aj3 (Aa (pv 3) Ab)) Ad (Ap _))))) (Ae (Bq bY hr.mo (Aa (pv 1) (Aa (Aj Av (pv 4) Ad) Ab)))) Aq)
   (Ae (Ao (Ag cy hr (Aa (pv 3) Ab)))))))),?_⟩
  exists ⟨a,rs,rows,i,"tie",rfl,ra,hi,λws H1 p1 e wl wz s1 n1 g1=>?_,λr w e=>kE r w (AT e)⟩;w_fin;row_lines H1 x2;refine Cr (as:=ws) (bs:=["-"]) (bx.of (s2 _ _ g1)) (bx.of g2) ?_;exists Az (λh=>?_) (λh=>?_)
  .w_fin;row_lines H2 x3;exact kQ [] H3 p3 (Ar e (bS h)) (by decide) (s1.trans (s2.trans s3)) (s1.free (s2.free n3)) g3
  w_fin;have g12:=s2 _ _ g1;refine Bo (bx.of g12) ?_;rw[show FD (ws.map V.str) aV (aS 1)=(ws.take 1).map V.str by rw[JB (by decide),Ap3];rfl];row_lines H2 x3;w_fin;row_lines H3 x4;refine Cr (as:=ws.take 1) (bs:=["-"]) (bx.of (s4 _ _ g3)) (bx.of g4) ?_;w_fin;have g14:=(s3.trans s4) _ _ g12;have s04:=s1.trans (s2.trans (s3.trans s4));have ne1:ws.take 1=[("-":Str)]->1<ws.length:=λq=>by
   cases ws with
   | nil=>cases q
   | cons z zs=>
    cases zs with
    | nil=>exact bV q h
    | cons y ys=>simp
  refine ifE (λv H'=>Same H4 H'/\v=nV (if ws.take 1=[("-":Str)] then 1 else BV m 0 ws)) ?_ (λR key=>?_);rotate_left
  .refine Az (λq=>?_) (λq=>?_)
   .w_fin;exact key _ _ ⟨Same.refl _,by rw[bS q];rfl⟩
   .w_fin;exact⟨p1,ws,m,rfl,g14,by omega,wz,λH5 s5=>key _ _ ⟨s5,by rw[bG q]⟩⟩
  rintro _ H5 ⟨s5,rfl⟩;have g15:=s5 _ _ g14;exists Ax (bx.of g15) ?_;rw[Aa0];w_fin;have s05:=s04.trans s5;have rl:=Jr (m:=m) (ws:=ws) (l:=0);have er:∀D:Ends,∀x:Nat,x<=200->Hr rows i m= .error (i+1,x+2)->FR E c.bM (BA c) (Ia (N0 1) (Ia (uf (qj λi j=>V.int (i+j)) (N0 4) (tC (V.int 2))) MC)) D [aS (.ref a),aS (nV (i+1)),aS (nV m),aS (.ref p1),aS (nV x)] H5:=λD x hx e=>by
   refine Bz ?_;w_fin;rw[show ((x:Nat):Int)+2=((x+2:Nat):Int) by omega];exact BS (by omega) (by omega) ((kE _ _ e).same s05)
  by_cases q:ws.take 1=[("-":Str)]
  .have:=ne1 q;simp only[bS q];refine Az (λ_=>?_) (λz=>bV (by omega) z);rw[bS trivial];exact er _ 1 (by decide) (Ar e ((bG h).trans (bS q)))
  .simp only[bG q];refine Az (λlt=>?_) (λlt=>?_)
   .rw[bS trivial];exact er _ _ (by omega) (Ar e ((bG h).trans ((bG q).trans (bS (.inr (by omega))))))
   exists Ax (bx.of g15) ?_;rw[Aa0];exists Az (λz=>?_) (λz=>?_)
   .exact er _ _ (by omega) (Ar e ((bG h).trans ((bG q).trans (bS (.inl (Ah1.mp (by omega)))))))
   w_fin;obtain⟨r1,r2⟩:=Er (show BV m 0 ws=ws.length by omega);have rl2:=B9 r1 (Ad4 _);rw[Aa0] at rl2;refine⟨p1,ws,AQ ws,rfl,g15,by omega,wz,r2,λH6 p6 s6 n6 g6=>?_⟩;exact kQ _ H6 p6 (Ar e ((bG h).trans ((bG q).trans (bG (λz'=>z'.elim (λz'=>z (by rw[z'];rfl)) (λz'=>by omega)))))) (by rw[Aa0];omega) (s05.trans s6) (s05.free n6) g6
noncomputable def SpE(K:aU)(sL:Sp)(H:Hp)(a:Addr)(ws:List Str)(mx:Nat)(fits:Str->Bool):Prop:=bx K H a (ws.map V.str)/\ws.length<=300/\(∀z∈ws,z.length<=100)/\mx<=60/\
 ∀z∈ws,z≠dg->Al4 z nM=false->∀H' (Q':VK),Same H H'->(∀gx,Same H' gx->Q' (.bl (fits z)) gx)->sL [.str z] H' Q' E0
noncomputable def BL(K:aU)(c:Cs)(fl:Addr)(sL:Sp):Sp:=λvs H Q E=>∃(a:Addr) (ws:List Str) (n mx:Nat) (fits:Str->Bool),vs=[.ref a,nV n,nV mx, .ref fl]/\n<900/\SpE K sL H a ws mx fits/\
 (∀out H' p,qh fits mx ws= .ok out->Same H H'->H p=aV->H' p=aS (.lst (out.map V.str))->Q (.ref p) H')/\∀p,qh fits mx ws= .error p->mj c E H n (p+1)
theorem Vb(e:Cb fits mx ws p):p<=ws.length+1:=by
 rcases e with ⟨_,_,h,_⟩ | ⟨h,_⟩ <;> omega
noncomputable abbrev EA:Stmt:=top 48
theorem jd:bz ["words","number","most","fits","error"] ["words","number","most","fits"] (Ah EA):=by w_left
theorem Kf(lv:jQ P w K mg base 6 fl sL)(F:cR K "read_items" "read_items" EA f fd)(T:Txt K mg c)(gv:BJ P w K mg base "spread" 8 ["words","most","fits"] (Gg K c fl sL))(bY:B5 P w K mg base "BadRow" c.bM 1 ["self","row","word"] (BA c)):bQ P w K mg base (cW P w) 9 f fd ["words","number","most","fits"] (BL K c fl sL):=by
 tbr_iter (cR.uS F jd)
 .obtain⟨a,ws,n,mx,fits,rfl,hn,⟨sa,hl,hz,hmx,hf⟩,kQ,kE⟩:=h;refine⟨_,(Ae (TB (j:=4) T.gr bY hr.mo jd.nd rfl rfl gv hr (λ_ _=>(Aa (pv 0) (Aa (pv 2) (Aa (pv 3) Ab)))) (λ_ _=>(Aa (pv 1) (Aa (Aj Av (Qm (K:=K) (pv 4) rfl) Ad) Ab))))),?_⟩;refine Tl ?_;exists ⟨a,ws,mx,fits,λ_=>False,λ_ _=>True,rfl,sa,hl,hz,hmx,λ_ h=>h.elim,trivial,λ_ _ _=>trivial,λ_ _ _ _ _=>trivial,λz hz q1 q2 _ H' Q' s' _ _ hQ=>?_,λout cn H2 p qq gh s2 _ q9 hp=>kQ out H2 p (N3 qq gh) s2.same q9 hp,λp H2 dx _ he s2 _ _ iQ=>?_⟩
  .exact hf z hz q1 q2 H' Q' s'.same λgx rT=>hQ gx (bP.of rT) trivial
  have pl:=Vb he;refine⟨c.bL,dx,[("place",nV p)],rfl,T.jq,rfl,iQ,rfl,λa2 pJ=>?_⟩;have s3:=Al (o:=Jh a2 c.bL (aS dx)) pJ;have ea:upd H2 a2 (Jh a2 c.bL (aS dx)) a2=_:=upd_same;have yJ:=s3 _ _ iQ;generalize upd H2 a2 _=H3 at s3 ea yJ ⊢;have s03:=s2.same.trans s3;exists Rt ?_;exists a2,_,dx,_,_,rfl,ea,yJ,rfl,T.oV,T.gu;w_fin;rw[show ((p:Nat):Int)+1=((p+1:Nat):Int) by omega];refine⟨by simp,by rw[ea];simp,λe hee=>⟨e,n,p+1,rfl,upd_same,by omega,by omega,λzT H4 sM kp eb ed=>⟨rfl,aS zT,eb,?_,?_,?_⟩⟩⟩
  .have ne:a2≠e:=λz=>by rw[z,hee] at ea;cases ea
   exact kp a2 _ ((An ne).trans ea) ne
  .have nd:zT≠e:=λz=>by rw[z,upd_same] at sM;cases sM
   exact xT.of ((Gf nd).trans ed) rfl
  .have nd:zT≠e:=λz=>by rw[z,upd_same] at sM;cases sM
   refine kE p (SK he) _ zT (λb o eo=>?_) ((Gf nd).trans ed);have nb:b≠e:=λz=>by rw[z,s03.free hee] at eo;cases eo
   rw[Gf nb];exact kp b o ((An nb).trans (s03 _ _ eo)) nb
noncomputable def nt(H:Hp):Hp:=λb=>match H b with
 | some (.ko _)=>aV
 | o=>o
theorem Sx(h:H b=aS o)(n:∀ps,o≠ .ko ps):nt H b=aS o:=by
 unfold nt;rw[h];cases o with
 | ko ps=>exact bV rfl (n ps)
 | _=>rfl
theorem My(h:nt H b=aS o):H b=aS o/\∀ps,o≠ .ko ps:=by
 unfold nt at h;split at h
 .cases h
 .rename_i e
  refine⟨h,λps z=>?_⟩;subst z;exact e ps h
theorem RK(h:H b=aS (.lst xs)):nt H b=aS (.lst xs):=Sx h λ_ z=>by cases z
theorem XJ(r:Rp H F n v d):Rp (nt H) F n v d:=by
 induction r with
 | bC=>exact .bC
 | bl b=>exact .bl b
 | int i=>exact .int i
 | str z=>exact .str z
 | lst h f b l e ih=>exact .lst (RK h) f b l ih
 | tup h b l e ih=>exact .tup (Sx h λ_ z=>by cases z) b l ih
noncomputable def Xp:Str:=(envOfC "read_threading" (Ah (top 49)) 0 0 .none).qual++"<lambda>"
noncomputable def W2:Str:=(envOfC "read_treading" (Ah (top 52)) 0 0 .none).qual++"<lambda>"
structure Tb(t1 t2:Addr)(H:Hp):Prop where
 l1:gC H t1 Xp
 l2:gC H t2 W2
 n12:t1≠t2
theorem Tb.same{t1 t2:Addr}(h:Tb t1 t2 H)(s:Same H H'):Tb t1 t2 H':=⟨h.l1.same s,h.l2.same s,h.n12⟩
structure dQ(t1 t2:Addr)(H H':Hp):Prop where
 st:Same (nt H) H'
 th:∀b,H b≠aV->H' b≠aV
 tb:Tb t1 t2 H->Tb t1 t2 H'
section
variable {t1 t2:Addr}{gx:Hp}
theorem dQ.of(s:Same H H'):dQ t1 t2 H H':=⟨λb o e=>s b o (My e).1,λb n z=>n (s.free z),λt=>t.same s⟩
theorem dQ.trans(s:dQ t1 t2 H H')(t:dQ t1 t2 H' gx):dQ t1 t2 H gx:=⟨λb o e=>t.st b o (Sx (s.st b o e) (My e).2),λb n=>t.th b (s.th b n),λx=>t.tb (s.tb x)⟩
theorem dQ.free(s:dQ t1 t2 H H')(n:H' b=aV):H b=none:=by
 cases e:H b with
 | none=>rfl
 | some o=>exact bV n (s.th b (by rw[e];simp))
theorem dQ.lst(s:dQ t1 t2 H H'){xs:List V}(h:H b=aS (.lst xs)):H' b=aS (.lst xs):=s.st _ _ (RK h)
theorem dQ.rp(s:dQ t1 t2 H H')(r:Rp H F n v d):Rp H' F n v d:=(XJ r).same s.st
theorem O6{T t:Addr}(h:gC H T q)(l:gC H t p)(n:T≠t)(old:∀b o,b≠t->H b=aS o->H' b=aS o):gC H' T q:=by
 obtain⟨ps,h1,h2,h3⟩:=h;obtain⟨vY,e,_⟩:=l;refine⟨ps,old _ _ n h1,h2,λpos cv z=>?_⟩;obtain⟨c',oc,q1,q2,q3⟩:=h3 pos cv z;exact⟨c',oc,q1,old _ _ (GQ q2 e (λz=>by unfold qQ at z;cases z)) q2,q3⟩
theorem Ov{t:Addr}(l:gC H t p)(l':gC H' t p)(old:∀b o,b≠t->H b=aS o->H' b=aS o)(tb:Tb t1 t2 H->Tb t1 t2 H'):dQ t1 t2 H H':=by
 obtain⟨ps,e,_⟩:=l;obtain⟨vY,e',_⟩:=l';refine⟨λb o h=>old b o (λz=>?_) (My h).1,λb n z=>?_,tb⟩
 .have:=(My h).1;rw[z,e] at this;exact(My h).2 ps (Ae1.inj this).symm
 .by_cases hb:b=t
  .rw[hb,e'] at z;cases z
  .cases q:H b with
   | none=>exact n q
   | some o=>rw[old b o hb q] at z;cases z
theorem YI(t:Tb t1 t2 H)(l':gC H' t1 Xp)(old:∀b o,b≠t1->H b=aS o->H' b=aS o):dQ t1 t2 H H':=Ov t.l1 l' old λt=>⟨l',O6 t.l2 t.l1 t.n12.symm old,t.n12⟩
theorem Zl(t:Tb t1 t2 H)(l':gC H' t2 W2)(old:∀b o,b≠t2->H b=aS o->H' b=aS o):dQ t1 t2 H H':=Ov t.l2 l' old λt=>⟨O6 t.l1 t.l2 t.n12 old,l',t.n12⟩
end
noncomputable def kh(c:Cs)(E:XK)(t1 t2:Addr)(H:Hp)(r m:Nat):Prop:=∀H' dx,dQ t1 t2 H H'->H' dx=aS (jR dx [("row",nV r),("word",nV m)])->E (.ref c.bM) (aS dx) H'
theorem kh.row{E:XK}{t1 t2:Addr}(h:kh c E t1 t2 H r m):mj c E H r m:=λH' dx s e=>h H' dx (dQ.of s) e
theorem kh.on{E:XK}{t1 t2:Addr}(h:kh c E t1 t2 H r m)(s:dQ t1 t2 H H'):kh c E t1 t2 H' r m:=λgx dx s' e=>h gx dx (s.trans s') e
theorem NG{s s':bE.Sm Str}{R:Str->Prop}(h:bE.step dg fV fits mx s z=aS s')(tm:∀n∈s.times,2<=n)(h0:∀u∈s.held,∀y∈u,R y)(hz:fits z=true->R z):(∀u∈s'.held,∀y∈u,R y)/\(s'.times≠[]\/s'.held.head?≠aS []):=by
 unfold bE.step at h;split at h
 .split at h
  .rename_i u v st t ts e1 e2
   split at h
   .rename_i q
    cases h;rw[e1] at h0;refine⟨λw hw y hy=>?_, .inr ?_⟩
    .rcases Aa7.mp hw with rfl | hw
     .rcases Ad6.mp hy with hy | hy
      .exact h0 v (by simp) y hy
      .rw[<-bE.kU] at hy;obtain⟨l,hl,hy⟩:=List.mem_flatten.mp hy;rw[List.eq_of_mem_replicate hl] at hy;exact h0 u (by simp) y hy
     .exact h0 w (by simp[hw]) y hy
    .intro y;have y:v++bE.rep u t=[]:=by simpa using y
     have e:=congrArg Ah4 y;rw[Aa5,bE.gD,Ah5] at e;have t2:=tm t (by rw[e2];exact Ab0);have hu:=Ae9.mpr q.1;have:u.length*1<=u.length*t:=Ar4 _ (by omega);omega
   .cases h
  .cases h
 .split at h
  .split at h
   .cases h;exact⟨λw hw y hy=>(Aa7.mp hw).elim (λe=>by rw[e] at hy;cases hy) (λhw=>h0 w hw y hy), .inl (by simp)⟩
   .cases h
  .cases h
  .split at h
   .rename_i u st e1
    split at h
    .rename_i q
     cases h;rw[e1] at h0;refine⟨λw hw y hy=>?_, .inr (by simp)⟩;rcases Aa7.mp hw with rfl | hw
     .rcases Ad6.mp hy with hy | hy
      .exact h0 u (by simp) y hy
      .rw[Ac9.mp hy];exact hz q.1
     .exact h0 w (by simp[hw]) y hy
    .cases h
   .cases h
theorem Kw{fits:Str->Bool}{mx:Nat}{R:Str->Prop}:∀(ws:List Str) (s s':bE.Sm Str),vA mx s->bE.run dg fV fits mx s ws=aS s'->(∀u∈s.held,∀y∈u,R y)->(∀z∈ws,fits z=true->R z)->(∀u∈s'.held,∀y∈u,R y)/\(ws≠[]->s'.times≠[]\/s'.held.head?≠aS [])
 | [],s,s',M,e,h0,_=>by cases e;exact⟨h0,λz=>bV rfl z⟩
 | w::ws,s,s',M,e,h0,hz=>by
  unfold bE.run at e;split at e
  .rename_i s1 e1
   obtain⟨h1,h2⟩:=NG e1 (λn hn=>(M.tm n hn).1) h0 (hz w Ab0);obtain⟨h3,h4⟩:=Kw ws s1 s' (M.step e1) e h1 λz vV=>hz z (Aa8 _ vV);refine⟨h3,λ_=>?_⟩;by_cases q:ws=[]
   .subst q;cases e;exact h2
   .exact h4 q
  .cases e
theorem Tp(h:qh fits mx ws= .ok out):∃cn,rn fits mx ws=aS ⟨[out],[],cn⟩/\ws≠[]:=by
 unfold qh at h;split at h
 .rename_i q
  cases h;obtain⟨⟨cn,e⟩,n⟩:=q.choose_spec;exact⟨cn,e,n⟩
 .split at h <;> cases h
theorem Md{out:List Str}(h:qh fits mx ws= .ok out):1<=out.length/\out.length<=mx/\∀z∈out,fits z=true/\z∈ws:=by
 obtain⟨cn,e,gh⟩:=Tp h;have M:=Nk e;obtain⟨h1,h2⟩:=Kw (R:=λz=>fits z=true/\z∈ws) ws M0 _ ⟨λ_ h=>(by cases h),rfl,rfl,Ad4 _⟩ e (λu hu y hy=>by rw[Ac9.mp hu] at hy;cases hy) λz hz q=>⟨q,hz⟩;have sm:=M.sm;have mo:cn<=mx:=M.mo;simp only[Ac3,At0,Af0,List.sum_nil] at sm;refine⟨?_,by omega,h1 out (by simp)⟩;rcases h2 gh with z | z
 .exact bV rfl z
 .cases out with
  | nil=>exact bV rfl z
  | cons _ _=>simp
theorem IH(c:Nat):∀l:List Nat,(MS.b9 c l).length<=l.length+1/\∀w∈MS.b9 c l,w.length<=l.length
 | []=>⟨by simp[MS.b9],λw hw=>by simp[MS.b9] at hw;simp[hw]⟩
 | d::r=>by
  obtain⟨h1,h2⟩:=IH c r;unfold MS.b9;split
  .exact⟨by simp;omega,λw hw=>(Aa7.mp hw).elim (λe=>by simp[e]) (λhw=>by have:=h2 w hw;simp;omega)⟩
  .split
   .exact⟨by simp,λw hw=>by simp at hw;simp[hw]⟩
   .rename_i w ws e
    rw[e] at h1 h2;refine⟨by simp at h1 ⊢;omega,λv hv=>?_⟩;rcases Aa7.mp hv with rfl | hv
    .have:=h2 w (by simp);simp;omega
    .have:=h2 v (by simp[hv]);simp;omega
theorem PV{c:Nat}(hc:c<256)(hz:z.cps.toList≠[]):(Ai8 z ⟨#[c]⟩).length<=z.length+1/\∀y∈Ai8 z ⟨#[c]⟩,y.length<=z.length:=by
 have e:=MS.fm z c hc hz;obtain⟨h1,h2⟩:=IH c z.cps.toList;rw[<-e] at h1 h2;rw[Aa0,Fk] at h1;refine⟨h1,λy hy=>?_⟩;have:=h2 _ (Ac4.mpr ⟨y,hy,rfl⟩);rw[Fk,Fk] at this;exact this
theorem Nx(h:z.length<=100):(A2 z).length<=101/\∀y∈A2 z,y.length<=100:=by
 unfold A2;split
 .exact⟨by simp,λy hy=>by cases hy⟩
 .by_cases q:z.cps.toList=[]
  .rw[G6 q];decide +kernel
  .rw[GZ];obtain⟨h1,h2⟩:=PV (c:=43) (by decide) q;exact⟨by omega,λy hy=>Ab4 (h2 y hy) h⟩
noncomputable def EY:Sp:=λvs H Q _=>∃(z:Str) (m:Nat),vs=[.str z,nV m]/\z.length<=100/\∀H',Same H H'->Q (.bl (fP m z)) H'
noncomputable abbrev Dc:Stmt:=top 51
theorem gV:bz ["word","treadles","words"] ["word","treadles"] (Ah Dc):=by w_left
theorem Im(F:cR K "is_pick_word" "is_pick_word" Dc f fd)(T:Txt K mg c)(cL:bF P w K mg base "trodden_words" 1 ["word"] Cj)(cO:bF P w K mg base "rising_words" 4 ["words","most"] CH):bQ P w K mg base c6 5 f fd ["word","treadles"] EY:=by
 tbr_iter (F.ok gV)
 .obtain⟨z,m,rfl,hl,k⟩:=h;obtain⟨h1,h2⟩:=Nx hl;refine⟨_,(Ac (Am 2 gV.nd (Ag cL hr.mo (Aa (pv 0) Ab)))
   (Ae (Ao (Bw Bb (Ag cO hr (Aa (pv 2) (Aa (pv 1) Ab))) (Ai (AF (K:=K)) rfl T.ow Aj3 (Aa (pv 2) Ab)) (Ap _))))),?_⟩
  exists ⟨z,rfl,by omega,λH1 p s1 hp g1=>?_⟩;exists ⟨p,_,m,rfl,g1,by omega,h2,λH2 s2=>?_⟩;exists Ax (bx.of (s2 _ _ g1)) ?_;rw[Aa0];w_fin;have:=k H2 (s1.trans s2);unfold fP at this;rw[show decide (((BV m 0 (A2 z):Nat):Int)=(((A2 z).length:Nat):Int))=decide (BV m 0 (A2 z)=(A2 z).length) from decide_eq_decide.mpr (by omega)];exact this
theorem OO{out:List Str}(e:kg rows i nm= .ok ws)(h:qh fits mx ws= .ok out)(l:least<=out.length):iR rows i nm fits mx least= .ok out:=Ar e (by rw[h];exact bG (by omega))
theorem Pb(e:kg rows i nm= .ok ws)(h:qh fits mx ws= .error p):iR rows i nm fits mx least= .error (i+1,p+1):=Ar e (by rw[h])
theorem QD{out:List Str}(e:kg rows i nm= .ok ws)(h:qh fits mx ws= .ok out)(l:out.length<least):iR rows i nm fits mx least= .error (i+1,ws.length+2):=Ar e (by rw[h];exact bS l)
theorem TU{a b:Int}(h:∀z∈ws,Be (AI z) a b=true):ws.map AI=(AQ ws).map nV:=by
 rw[Ae2];exact Av7 λz hz=>(CQ (h z hz)).1
noncomputable def DB(K:aU)(c:Cs)(t1 t2:Addr):Sp:=λvs H Q E=>∃(a:Addr) (rs:List Str) (rows:List (List Str)) (i m:Nat),vs=[.ref a,nV (i+1),nV m]/\k8 H a rs rows/\i<100/\m<=16/\Tb t1 t2 H/\
 (∀out H' p,iR rows i "thread" (fN m) 60 1= .ok out->dQ t1 t2 H H'->H p=aV->H' p=aS (.lst ((AQ out).map nV))->Q (.ref p) H')/\∀r w,iR rows i "thread" (fN m) 60 1= .error (r,w)->kh c E t1 t2 H r w
noncomputable abbrev BF:Stmt:=top 49
theorem dJ:bz ["rows","number","shafts","words","items"] ["rows","number","shafts"] (Ah BF):=by w_left
theorem GO(hc:fd.code= .ref cc)(hd:As4 base cc iD)(wO:base.BuiltinsAt mg iD)(F:cR K "read_threading" "read_threading" BF f fd)(T:Txt K mg c)(bI:BJ P w K mg base "words_behind" 3 ["rows","number","name"] (Bf c))(bX:(∃fs,mg "read_items"=aS (.ref fs)/\Ak7 K (.ref fs)=true)/\∀(cg:Heap) (fl:Addr) (sL:Sp),jQ P w K mg cg 6 fl sL->BJ P w K mg cg "read_items" 9 ["words","number","most","fits"] (BL K c fl sL))(bB:bF P w K mg base "is_among" 2 ["thing","least","most"] (Bg K))(bH:bF P w K mg base "number_of" 3 ["word"] BD)(cy:bF P w K mg base "numbers_told" 4 ["words"] BM):bQ P w K mg base (cW P w) 10 f fd ["rows","number","shafts"] (DB K c iD iE):=by
 refine cR.ym F hc dJ (λvs H Q E h=>?_) (λA bw s H vs Q E hr h=>?_)
 .obtain⟨a,rs,rows,i,m,rfl,_⟩:=h;rfl
 .obtain⟨a,rs,rows,i,m,rfl,ra,hi,hm,tb,kQ,kE⟩:=h;have hu:=hr.cC;refine⟨_,(Ac (Am 3 dJ.nd (Bk bI hr.mo Dz (Aa (pv 0) (Aa (pv 1) (Aa Af Ab)))))
   (Ac (Am 4 dJ.nd (MT (kb:=5) (y:="word") (N:=["shafts"]) (idx:=[2]) bX.1 bX.2 hr Dz ⟨rfl,hd,wO⟩ (pv 3) (pv 1) (Fd T.j3) (λ_ _ _ _ _ _ _ _ zU=>(Ag bB (zU.mono (by decide)) (Aa (Ag bH (zU.mono (by decide)) (Aa (pv 0) Ab)) (Aa Ad (Aa (pv 1) Ab))))) (show Dk _ _ _ ["rows","number","shafts","words","items"] (Ah BF).names=true by decide +kernel) (by decide +kernel)))
   (Ae (Ao (Ag cy hr.mo (Aa (pv 4) Ab)))))),?_⟩
  exists ⟨a,rs,rows,i,"thread",rfl,ra,hi,λws H1 p1 e wl wz s1 n1 g1=>?_,λr w e=>(kE r w (AT e)).row⟩;exists Ni ?_;exists ⟨(tb.same s1).l1,[nV m],rfl,λi j hj=>?_,λH2 fl c' oc wk old tE=>?_⟩
  .match i,hj with
   | 0,hj=>
    cases hj;exact⟨_,rfl,rfl⟩
  have x2:dQ iD iE H1 H2:=YI (tb.same s1) wk old;have x02:=(dQ.of s1).trans x2;have g2:=x2.lst g1;refine⟨p1,ws,i+1,60,fN m,rfl,by omega,⟨bx.of g2,by omega,wz,by decide,λz hz q1 q2 H3 Q' s3 q=>?_⟩,λout H3 p3 ok s3 n3 g3=>?_,λp er=>((kE _ _ (Pb e er)).on x02).row⟩
  .refine⟨_,rfl,s3 _ _ tE,?_⟩;exists ⟨_,rfl,wz z hz,λH4 s4=>?_⟩;exists _,_,_,rfl,IF _;exact q H4 s4
  .obtain⟨o1,o2,o3⟩:=Md ok;exists ⟨p3,out,AQ out,rfl,g3,by omega,λz hz=>wz z (o3 z hz).2,TU λz hz=>(o3 z hz).1,λH4 p4 s4 n4 g4=>?_⟩;have x3:=x02.trans (dQ.of s3);exact kQ out H4 p4 (OO e ok o1) (x3.trans (dQ.of s4)) (x3.free n4) g4
noncomputable def DT(K:aU)(c:Cs)(t1 t2:Addr):Sp:=λvs H Q E=>∃(a:Addr) (rs:List Str) (rows:List (List Str)) (i m:Nat),vs=[.ref a,nV (i+1),nV m]/\k8 H a rs rows/\i<100/\m<=16/\Tb t1 t2 H/\
 (∀out H' p,iR rows i "tread" (fP m) 60 1= .ok out->dQ t1 t2 H H'->H p=aV->Rp H' (FN H) 2 (.ref p) (qM (out.map λz=>AQ (A2 z)))->Q (.ref p) H')/\∀r w,iR rows i "tread" (fP m) 60 1= .error (r,w)->kh c E t1 t2 H r w
noncomputable abbrev BO:Stmt:=top 52
theorem dW:bz ["rows","number","treadles","words","items"] ["rows","number","treadles"] (Ah BO):=by w_left
theorem Hz(hc:fd.code= .ref cc)(hd:As4 base cc iE)(wO:base.BuiltinsAt mg iE)(F:cR K "read_treading" "read_treading" BO f fd)(T:Txt K mg c)(bI:BJ P w K mg base "words_behind" 3 ["rows","number","name"] (Bf c))(bX:(∃fs,mg "read_items"=aS (.ref fs)/\Ak7 K (.ref fs)=true)/\∀(cg:Heap) (fl:Addr) (sL:Sp),jQ P w K mg cg 6 fl sL->BJ P w K mg cg "read_items" 9 ["words","number","most","fits"] (BL K c fl sL))(fJ:bF P w K mg base "is_pick_word" 5 ["word","treadles"] EY)(cy:bF P w K mg base "numbers_told" 4 ["words"] BM)(cL:bF P w K mg base "trodden_words" 1 ["word"] Cj):bQ P w K mg base (cW P w) 10 f fd ["rows","number","treadles"] (DT K c iD iE):=by
 refine cR.ym F hc dW (λvs H Q E h=>?_) (λA bw s H vs Q E hr h=>?_)
 .obtain⟨a,rs,rows,i,m,rfl,_⟩:=h;rfl
 .obtain⟨a,rs,rows,i,m,rfl,ra,hi,hm,tb,kQ,kE⟩:=h;have hu:=hr.cC;refine⟨_,(Ac (Am 3 dW.nd (Bk bI hr.mo Dz (Aa (pv 0) (Aa (pv 1) (Aa Af Ab)))))
   (Ac (Am 4 dW.nd (MT (kb:=5) (y:="word") (N:=["treadles"]) (idx:=[2]) bX.1 bX.2 hr Dz ⟨rfl,hd,wO⟩ (pv 3) (pv 1) (Fd T.jG) (λ_ _ _ _ _ _ _ _ zU=>(Ag fJ (zU.mono (by decide)) (Aa (pv 0) (Aa (pv 1) Ab)))) (show Dk _ _ _ ["rows","number","treadles","words","items"] (Ah BO).names=true by decide +kernel) (by decide +kernel)))
   (Ae (Ao (AD (Bp (K:=K) (pv 4)) (λ_ _ _ _=>AC) (λ_ _ _ _=>(Ag cy hr.mo (Aa (Ag cL hr.mo (Aa (pv 0) Ab)) Ab)))))))),?_⟩
  exists ⟨a,rs,rows,i,"tread",rfl,ra,hi,λws H1 p1 e wl wz s1 n1 g1=>?_,λr w e=>(kE r w (AT e)).row⟩;exists Ni ?_;exists ⟨(tb.same s1).l2,[nV m],rfl,λi j hj=>?_,λH2 fl c' oc wk old tE=>?_⟩
  .match i,hj with
   | 0,hj=>
    cases hj;exact⟨_,rfl,rfl⟩
  have x2:dQ iD iE H1 H2:=Zl (tb.same s1) wk old;have x02:=(dQ.of s1).trans x2;have g2:=x2.lst g1;refine⟨p1,ws,i+1,60,fP m,rfl,by omega,⟨bx.of g2,by omega,wz,by decide,λz hz q1 q2 H3 Q' s3 q=>?_⟩,λout H3 p3 ok s3 n3 g3=>?_,λp er=>((kE _ _ (Pb e er)).on x02).row⟩
  .refine⟨_,rfl,s3 _ _ tE,?_⟩;w_fin;exact⟨z,m,rfl,wz z hz,q⟩
  .obtain⟨o1,o2,o3⟩:=Md ok;exists ⟨p3,rfl,⟨_,bx.of g3⟩,λD hD=>?_⟩;refine A3 (m:=1) (G:=λi=>dL (AQ (A2 (out.getD i "")))) (AH (bx.of g3) rfl) hD (by rw[Aa0];omega) ?_ ?_
   .intro i H' R hi s kk;rw[Aa0] at hi;have uZ:=o3 _ (L2.getD_mem (y:=("":Str)) hi);rw[getD_map (e:=("":Str)) hi];have zl:=wz _ uZ.2;obtain⟨t1,t2⟩:=Nx zl;obtain⟨r1,r2⟩:=Er (of_decide_eq_true uZ.1);have rl:=B9 r1 (Ad4 _);rw[Aa0] at rl;exists ⟨_,rfl,by omega,λH4 p4 s4 n4 g4=>?_⟩;exists ⟨p4,_,AQ _,rfl,g4,by omega,t2,r2,λH5 p5 s5 n5 g5=>?_⟩;exact kk H5 _ (s4.trans s5) (JK g5 (s4.free n5) (by rw[Aa0];omega))
   .intro H4 ys s4 tF r4;rw[Aa0] at r4;have x3:=x02.trans (dQ.of s3);have x4:=x3.trans (dQ.of s4);rw[show ((Ab7 out.length).map λi=>dL (AQ (A2 (out.getD i ""))))=(out.map λz=>AQ (A2 z)).map dL by rw[Ae2];exact A7 (f:=λz=>dL (AQ (A2 z)))] at r4;exact kQ out H4 D (OO e ok o1) x4 (x3.free hD) (r4.imp λa ha=>x3.free ha)
theorem O3(z:Str):Od z=fC z:=by
 unfold Od fC;rw[Ad5,Ab5,gi,gi];constructor
 .rintro⟨h1,h2⟩;obtain⟨⟨l⟩⟩:=z;obtain⟨d,rfl⟩:∃d,l=[d]:=Az8.mp (by simpa [Am3] using h1);have h2:(!(Ak0 jI ⟨#[d]⟩ 0 jI.length 1).isEmpty)=true:=h2;rw[StrLaws.found_one,gi] at h2;have key:∀d∈jI.cps.toList,(⟨#[d]⟩:Str)∈eZ:=by decide +kernel
  exact key d h2
 .have key:∀z∈eZ,z.length=1/\(!(Ak0 jI z 0 jI.length 1).isEmpty)=true:=by decide +kernel
  exact key z
noncomputable def EX(K:aU)(c:Cs):Sp:=λvs H Q E=>∃(a:Addr) (rs:List Str) (rows:List (List Str)) (i:Nat) (nm:Str) (mn:Nat),vs=[.ref a,nV (i+1), .str nm,nV mn]/\k8 H a rs rows/\i<100/\mn<=60/\
 (∀out H' p,iR rows i nm fC mn mn= .ok out->Same H H'->H p=aV->H' p=aS (.lst (out.map V.str))->Q (.ref p) H')/\∀r w,iR rows i nm fC mn mn= .error (r,w)->mj c E H r w
noncomputable abbrev Da:Stmt:=top 53
theorem eO:bz ["rows","number","name","many","words","colours"] ["rows","number","name","many"] (Ah Da):=by w_left
theorem Iv(F:cR K "read_colours" "read_colours" Da f fd)(T:Txt K mg c)(bI:BJ P w K mg base "words_behind" 3 ["rows","number","name"] (Bf c))(bX:(∃fs,mg "read_items"=aS (.ref fs)/\Ak7 K (.ref fs)=true)/\∀(cg:Heap) (fl:Addr) (sL:Sp),jQ P w K mg cg 6 fl sL->BJ P w K mg cg "read_items" 9 ["words","number","most","fits"] (BL K c fl sL))(dB:bF P w K mg base "is_colour" 1 ["thing"] Ef)(bY:B5 P w K mg base "BadRow" c.bM 1 ["self","row","word"] (BA c)):bQ P w K mg base (cW P w) 10 f fd ["rows","number","name","many"] (EX K c):=by
 tbr_iter (cR.uS F eO)
 .obtain⟨a,rs,rows,i,nm,mn,rfl,ra,hi,hm,kQ,kE⟩:=h;have hu:=hr.cC;obtain⟨fc,hfc,LC⟩:=dB.lam (k':=6) (by decide);refine⟨_,(Ac (Am 4 eO.nd (Bk bI hr.mo Dz (Aa (pv 0) (Aa (pv 1) (Aa (pv 2) Ab)))))
   (Ac (Am 5 eO.nd (Bk (bX.2 base fc _ LC) hr Dz (Aa (pv 4) (Aa (pv 1) (Aa (pv 3) (Aa (G8 hfc) Ab))))))
   (Ac (Aw (Ak Ic (Ai (AF (K:=K)) rfl T.ow Aj3 (Aa (pv 5) Ab)) (pv 3) (Ap _)) (Ae (Bq bY hr.mo (Aa (pv 1) (Aa (Aj Av (Ai (AF (K:=K)) rfl T.ow Aj3 (Aa (pv 4) Ab)) Ad) Ab)))) Aq)
   (Ae (Ao (pv 5)))))),?_⟩
  exists ⟨a,rs,rows,i,nm,rfl,ra,hi,λws H1 p1 e wl wz s1 n1 g1=>?_,λr w e=>kE r w (AT e)⟩;exists ⟨p1,ws,i+1,mn,fC,rfl,by omega,⟨bx.of g1,by omega,wz,hm,λz hz q1 q2 H3 Q' s3 q=>⟨z,rfl,wz z hz,by rw[O3];exact q H3 (Same.refl _)⟩⟩,λout H3 p3 ok s3 n3 g3=>?_,λp er=>(kE _ _ (Pb e er)).same s1⟩;exists Ax (bx.of g3) ?_;rw[Aa0];exists Az (λq=>?_) (λq=>?_)
  .exists Bz ?_;exists Ax (bx.of (s3 _ _ g1)) ?_;rw[Aa0];w_fin;rw[show ((ws.length:Nat):Int)+2=((ws.length+2:Nat):Int) by omega];exact BS (by omega) (by omega) ((kE _ _ (QD e ok (by omega))).same (s1.trans s3))
  .w_fin;exact kQ out H3 p3 (OO e ok (by omega)) (s1.trans s3) (s1.free n3) g3
section
variable {g:TG}{σ0:L2.St}{st:Nat->L2.St}{Q:VK}{D:Addr}
theorem PB{Z:Nat->Prop}{G:Nat->Dt}(S:fD J g σ0 H n st)(hD:H D=aV)(hn:n<=1000)(z0:Z 0)
  (he:∀i H' (R:VK),i<n->Z i->Same H H'->(∀H3 y,Z (i+1)->Same H' H3->Rp H3 (FN H') m y (G i)->R y H3)->te (st i) H' R)
  (hd:∀H',Z n->Same H H'->Rp H' (FN H) (m+1) (.ref D) (.lst ((Ab7 n).map G))->Q (.ref D) H'):DX J σ0 g MQ te Q H D:=by
 refine⟨λi k ys H'=>k=n - i/\i<=n/\Z i/\Same H H'/\H' D=aS (.lst ys)/\ys.length=i/\∀(j:Nat) (y:V),ys[j]?=aS y->Rp H' (λa=>H a=aV/\a≠D) m y (G j),⟨_,rfl,Ad4 _,z0,AG (Same.refl _) hD,upd_same,rfl,λj y q=>by simp at q⟩,?_⟩;rintro i k ys H1 ⟨rfl,hi,zi,s1,hl,len,el⟩;by_cases dZ:i<n
 .refine .inr ⟨S.go i H1 dZ s1,λku H'=>Z (i+1)/\Same H H'/\H' D=aS (.lst ku)/\ku.length=i+1/\∀(j:Nat) (y:V),ku[j]?=aS y->Rp H' (λa=>H a=aV/\a≠D) m y (G j),λku H' q=>⟨n - (i+1),by omega,rfl,dZ,q⟩,λx H2 y=>?_⟩;refine S.jM i H1 x H2 _ dZ s1 y λH3 s3=>⟨S.kp i dZ,?_⟩;unfold MQ;refine Mq ?_;have rM:H3 D=aS (.lst ys):=s3 _ _ hl;refine he i H3 _ dZ zi (s1.trans s3) λH5 y z5 s5 ry=>?_;have rX:=s5 _ _ rM;have nF:¬ (H D=aV/\D≠D):=λq=>q.2 rfl;refine⟨rX,AE8 (by omega:ys.length<=1000) (by decide),z5,AG (s1.trans (s3.trans s5)) hD,upd_same,by rw[Aa5,len];rfl,?_⟩;intro j z h1;by_cases hj:j<ys.length
  .rw[Ad9 hj] at h1;exact((el j z h1).same (s3.trans s5)).off rX nF
  .have ej:j=ys.length:=by
    have:=(Ab8.mp h1).1;rw[Aa5] at this;have:([y]:List V).length=1:=rfl;omega
   subst ej;rw[Ae3 (Aa6 _),AG2] at h1;cases h1;rw[len];refine(ry.imp (F':=λa=>H a=aV/\a≠D) λa ha=>⟨(s1.trans s3).free ha,λq=>?_⟩).off rX nF;subst q;rw[show H3 a=aV from ha] at rM;cases rM
 .have e:i=n:=by omega
  subst e;refine .inl ⟨S.stop H1 s1,hd H1 zi s1 (.lst hl hD (by omega) (by rw[Aa0,List.length_range];exact len) λj y d h1 h2=>?_)⟩;rw[Ac1] at h2;obtain⟨j',e1,e2⟩:=Ae5.mp h2;have:=(Ab8.mp e1).2;rw[AE3] at this;subst this;rw[<-e2];exact(el _ y h1).imp λa q=>q.1
end
noncomputable def Vz:Rs (List Nat)->List Nat
 | .ok l=>l
 | .error _=>[]
theorem Mm{l:List Nat}(h:Hr rows i sh= .ok l):CW 0 sh l:=by
 obtain⟨ws,_,e⟩:=Ll h;split at e
 .cases e;trivial
 .split at e
  .cases e
  .split at e
   .cases e
   .rename_i q
    cases e;exact(Er (Nat.le_antisymm Jr (AH2 λz=>q (.inr z)))).1
theorem Li{m:Nat}:∀{ns:List Nat} {l:Nat},CW l m ns->∀i,i<ns.length->(l::ns).getD i 0+1<=ns.getD i 0/\ns.getD i 0<=m
 | n::ns,l,h,0,_=>⟨h.1,h.2.1⟩
 | n::ns,l,h,i+1,hi=>Li h.2.2 i (by simpa using hi)
theorem E6{out:List Str}(h:iR rows i nm fits mx least= .ok out):1<=out.length/\least<=out.length/\out.length<=mx/\∀z∈out,fits z=true:=by
 obtain⟨ws,_,e⟩:=Ll h;split at e
 .cases e
 .rename_i o q
  split at e
  .cases e
  .rename_i l
   cases e;obtain⟨h1,h2,h3⟩:=Md q;exact⟨h1,by omega,h2,λz hz=>(h3 z hz).1⟩
theorem Q6(h:fC z=true):KA z:=by
 rw[<-O3] at h;unfold Od at h;rw[Ab5,gi] at h;exact h
structure o9(z:Str)(rows:List (List Str)):Prop where
 le:z.length<=1000000
 eq:rows=(Ai8 z "\n").map λr=>Ai8 r " "
 ln:(Ai8 z "\n").length<=900
 len:∀r∈Ai8 z "\n",r.length<=100000
 wl:∀r∈rows,r.length<=200/\∀z∈r,z.length<=100
noncomputable def DG(K:aU)(c:Cs)(t1 t2:Addr):Sp:=λvs H Q E=>∃x:V,vs=[x]/\Tb t1 t2 H/\((Ty K H x/\Lv x=false/\kh c E t1 t2 H 1 0)\/∃(z:Str) (rows:List (List Str)),x= .str z/\o9 z rows/\
 (∀d H' x,RD rows= .ok d->eG d->dQ t1 t2 H H'->H x=aV->Ux c.bT H' x d->Q (.ref x) H')/\∀r w,RD rows= .error (r,w)->kh c E t1 t2 H r w)
noncomputable abbrev ED:Stmt:=top 54
theorem cB:bz ["text","rows","shafts","treadles","threading","ties","treading","warp","weft"] ["text"] (Ah ED):=by w_left
theorem JV(F:cR K "read_draft" "read_draft" ED f fd)(T:Txt K mg c)(fj:BJ P w K mg base "read_count" 4 ["rows","number","name","most"] (F4 c))(dX:BJ P w K mg base "read_threading" 10 ["rows","number","shafts"] (DB K c iD iE))(jt:BJ P w K mg base "read_tie" 5 ["rows","number","shafts"] (HQ c))(eS:BJ P w K mg base "read_treading" 10 ["rows","number","treadles"] (DT K c iD iE))(dM:BJ P w K mg base "read_colours" 10 ["rows","number","name","many"] (EX K c))(mq:Q8 P w K mg base "Draft" c.bT 6 ["self","shafts","treadles","threading","ties","treading","warp","weft"] (B8 c))(bY:B5 P w K mg base "BadRow" c.bM 1 ["self","row","word"] (BA c)):bQ P w K mg base (cW P w) 11 f fd ["text"] (DG K c iD iE):=by
 tbr_iter (cR.uS F cB)
 .obtain⟨x,rfl,tb,h⟩:=h;have hu:=hr.cC;refine⟨_,(Ac (Aw (BI (A4 (Ai (BP (K:=K)) rfl T.ow Aj1 (Aa (pv 0) (Aa (Ca rfl T.ow As6) Ab))))) (Ae (Bq bY hr.mo (Aa Ad (Aa Ad Ab)))) Aq)
   (Ac (Am 1 cB.nd (Bl (K:=K) Aj5 Al2 An1 FU (pv 0) (Aa Af Ab)) rfl (AF3 rfl))
   (Ac (Am 2 cB.nd (Bk fj hr.mo Dz (Aa (pv 1) (Aa Ad (Aa Af (Aa (Fd T.i6) Ab))))) rfl (AF3 rfl))
   (Ac (Am 3 cB.nd (Bk fj hr.mo Dz (Aa (pv 1) (Aa Ad (Aa Af (Aa (Fd T.gT) Ab))))))
   (Ac (Am 4 cB.nd (Bk dX hr Dz (Aa (pv 1) (Aa Ad (Aa (pv 2) Ab)))))
   (Ac (Px WY (i:=5) cB.nd rfl (Ao0 rfl) (KI rfl T.ow (Aa Ad (Aa (Aj Av (pv 3) Ad) Ab))) (λ_ _ _ _=>AC) (λ_ _ _ _=>(Bk jt hr.mo Xm (Aa (pv 1) (Aa (Aj Av Ad (pv 0)) (Aa (pv 2) Ab))))))
   (Ac (Am 6 cB.nd (Bk eS hr Dz (Aa (pv 1) (Aa (Aj Av (pv 3) Ad) (Aa (pv 3) Ab)))))
   (Ac (Am 7 cB.nd (Bk dM hr Dz (Aa (pv 1) (Aa (Aj Av (pv 3) Ad) (Aa Af (Aa (Ai (AF (K:=K)) rfl T.ow Aj3 (Aa (pv 4) Ab)) Ab))))))
   (Ac (Am 8 cB.nd (Bk dM hr Dz (Aa (pv 1) (Aa (Aj Av (pv 3) Ad) (Aa Af (Aa (Ai (AF (K:=K)) rfl T.ow Aj3 (Aa (pv 6) Ab)) Ab))))))
   (Ac (Aw (Ak CI (Ai (AF (K:=K)) rfl T.ow Aj3 (Aa (pv 1) Ab)) (Aj Av (pv 3) Ad) (Ap _)) (Ae (Bq bY hr.mo (Aa (Aj Av (pv 3) Ad) (Aa Ad Ab)))) Aq)
   (Ae (Ao (Sw mq hr.mo (Aa (pv 2) (Aa (pv 3) (Aa (pv 4) (Aa (pv 5) (Aa (pv 6) (Aa (pv 7) (Aa (pv 8) Ab)))))))))))))))))))),?_⟩
  w_fin;rcases h with ⟨⟨n,ty⟩,ns,kE⟩ | ⟨z,rows,rfl,tr,kQ,kE⟩
  .refine Bi ty (by rw[Ud ty,ns]) ?_;exists Bz ?_;w_fin;exact BS (by decide) (by decide) kE.row
  refine Bi (.str _) (kb (b:=true) (by decide +kernel)) ?_;exists rK ?_;exists ⟨_,_,rfl,rfl,by decide,by rw[Aj9];have:=tr.le;omega,?_⟩;row_lines H x1;have RA:∀{H':Hp},dQ iD iE H1 H'->k8 H' p1 (Ai8 z "\n") rows:=λx=>⟨x.lst g1,tr.eq,tr.ln,tr.len,tr.wl⟩;have kE:∀{H'} r w,dQ iD iE H1 H'->RD rows= .error (r,w)->kh c E iD iE H' r w:=λr w x e=>(kE r w e).on ((dQ.of s1).trans x);have x1:dQ iD iE H1 H1:=dQ.of (Same.refl _);exists ⟨p1,_,rows,0,"shafts",rfl,RA x1,by decide,λsh H2 e1 sh1 wQ s2=>?_,λr w e=>(kE r w x1 (AT e)).row⟩;have x2:=x1.trans (dQ.of s2);exists ⟨p1,_,rows,1,"treadles",rfl,RA x2,by decide,λt H3 e2 t1 t2 s3=>?_,λr w e=>(kE r w x2 (Ar e1 (AT e))).row⟩;have x3:=x2.trans (dQ.of s3);exists ⟨p1,_,rows,2,sh,rfl,RA x3,by decide,wQ,x3.tb (tb.same s1),λth H4 p4 e3 x4 n4 g4=>?_,λr w e=>kE r w x3 (Ar e1 (Ar e2 (AT e)))⟩;have x14:=x3.trans x4;obtain⟨h1,_,h2,hth⟩:=E6 e3;exists ⟨_,_,rfl,⟨by decide,by decide,by omega,by omega⟩,λD5 wK=>?_⟩;rw[show (((t:Nat):Int)+1 - 1).toNat=t by omega];refine PB (m:=1) (Z:=λi=>∃ls,ET rows sh i= .ok ls/\ls.map dL=(Ab7 i).map (λi=>dL (Vz (Hr rows (3+i) sh)))/\∀l∈ls,CW 0 sh l) (G:=λi=>dL (Vz (Hr rows (3+i) sh))) (KM rfl) wK (by omega) ⟨[],rfl,rfl,λl hl=>by cases hl⟩ ?_ ?_
  .rintro i H' R hi ⟨ls,el,eg,er⟩ s kk;have x':=x14.trans (dQ.of s);w_fin;rw[show (3:Int)+(1+((i:Nat):Int))=(((3+i)+1:Nat):Int) by omega];refine⟨p1,_,rows,3+i,sh,rfl,RA x',by omega,wQ,λl H5 p5 e l16 s5 n5 g5=>kk H5 _ ⟨ls++[l],Ar el (Ar e rfl),?_,λm hm=>?_⟩ s5 ?_,λr w e=>(kE r w x' (Ar e1 (Ar e2 (Ar e3 (AT ?_))))).row⟩
   .rw[Av0,Ac2,Ac2,eg];show _++[dL l]=_++[dL (Vz (Hr rows (3+i) sh))];rw[e];rfl
   .rcases Ad6.mp hm with hm | hm
    .exact er m hm
    .rw[Ac9.mp hm];exact Mm e
   .rw[e];exact JK g5 n5 (by show l.length<=_;omega)
   .have h:ET rows sh (i+1)= .error (r,w):=Ar el (AT e);have:=ON h (t - (i+1));rw[show i+1+(t - (i+1))=t by omega] at this;exact this
  rintro H5 ⟨ti,e4,eg,er⟩ s5 r5;rw[<-eg] at r5;have til:ti.length=t:=by have:=congrArg Ah4 eg;simpa using this
  have x15:=x14.trans (dQ.of s5);w_fin;rw[show ((t:Nat):Int)+4=(((t+3)+1:Nat):Int) by omega];refine⟨p1,_,rows,t+3,t,rfl,RA x15,by omega,t2,x15.tb (tb.same s1),λtd H6 p6 e5 x6 n6 r6=>?_,λr w e=>kE r w x15 (Ar e1 (Ar e2 (Ar e3 (Ar e4 (AT e)))))⟩;have x16:=x15.trans x6;have g46:=x6.lst (s5 _ _ g4);obtain⟨q1,_,q2,htd⟩:=E6 e5;exists Ax (bx.of g46) ?_;w_fin;rw[Aa0,Aa0,show ((t:Nat):Int)+5=(((t+4)+1:Nat):Int) by omega];refine⟨p1,_,rows,t+4,"warp",th.length,rfl,RA x16,by omega,h2,λwa H7 p7 e6 s7 n7 g7=>?_,λr w e=>(kE r w x16 (Ar e1 (Ar e2 (Ar e3 (Ar e4 (Ar e5 (AT e))))))).row⟩;have x17:=x16.trans (dQ.of s7);obtain⟨_,a1,a2,hwa⟩:=E6 e6;w_fin;obtain⟨m6,a6,vs6,em6,ea6,ha6,_,tH,_,_⟩:=Ey (r6.same s7);cases ea6;rw[Aa0,Aa0] at tH;refine Ax (bx.of ha6) ?_;w_fin;rw[tH,show ((t:Nat):Int)+6=(((t+5)+1:Nat):Int) by omega];refine⟨p1,_,rows,t+5,"weft",td.length,rfl,RA x17,by omega,q2,λwe H8 p8 e7 s8 n8 g8=>?_,λr w e=>(kE r w x17 (Ar e1 (Ar e2 (Ar e3 (Ar e4 (Ar e5 (Ar e6 (AT e)))))))).row⟩;have x18:=x17.trans (dQ.of s8);obtain⟨_,b1,b2,hwe⟩:=E6 e7;have rl:rows.length=(Ai8 z "\n").length:=by rw[tr.eq,Aa0]
  exists Ax (bx.of (x18.lst g1)) ?_;rw[Aa0];exists Az (λq=>?_) (λq=>?_)
  .exists Bz ?_;w_fin;rw[show ((t:Nat):Int)+7=((t+7:Nat):Int) by omega];exact BS (by omega) (by decide) (kE _ _ x18 (Ar e1 (Ar e2 (Ar e3 (Ar e4 (Ar e5 (Ar e6 (Ar e7 (bS (by omega))))))))) ).row
  .have eD:RD rows= .ok ⟨sh,t,AQ th,ti,td.map λz=>AQ (A2 z),wa,we⟩:=Ar e1 (Ar e2 (Ar e3 (Ar e4 (Ar e5 (Ar e6 (Ar e7 (bG (by omega))))))));have ok:eG ⟨sh,t,AQ th,ti,td.map λz=>AQ (A2 z),wa,we⟩:={
    s1:=sh1
    s2:=wQ
    t1:=t1
    t2:=t2
    h1:=by rw[Aa0];exact h1
    h2:=by rw[Aa0];exact h2
    hs:=λn hn=>by
     obtain⟨y,hy,rfl⟩:=Ac4.mp hn;have:=(CQ (hth y hy)).2.2;exact Int.ofNat_le.mp this
    il:=til
    ir:=λl hl=>Li (er l hl)
    p1:=by rw[Aa0];exact q1
    p2:=by rw[Aa0];exact q2
    pr:=λl hl=>by
     obtain⟨y,hy,rfl⟩:=Ac4.mp hl;exact Li (Er (of_decide_eq_true (htd y hy))).1
    wl:=by rw[Aa0];show wa.length=_;omega
    wc:=λy hy=>Q6 (hwa y hy)
    fl:=by rw[Aa0];show we.length=_;omega
    fc:=λy hy=>Q6 (hwe y hy) }
   w_fin;have s78:=s7.trans s8;refine Tg (d:=⟨sh,t,AQ th,ti,td.map λz=>AQ (A2 z),wa,we⟩) ⟨_,_,_,_,_,rfl,s78 _ _ g46,(x6.rp r5).any.same s78,r6.any.same s78,s8 _ _ g7,g8⟩ ok λH9 x s9 hx D9=>?_;exact kQ _ H9 x eD ok ((dQ.of s1).trans (x18.trans (dQ.of s9))) (((dQ.of s1).trans x18).free hx) D9
theorem Vc{a b:Int}(h:MN.numOf z.cps.toList=aV):Be (AI z) a b=false:=by rw[FJ h];rfl
theorem OH(h1:1<=z.length)(h2:z.length<=3)(h3:z.cps.toList.all MN.ek=true)(h4:(decide (1<z.cps.toList.length)&&(z.cps.toList.head? == aS 48))=false):Aq2 z=aS ((Am0 z.cps.toList:Nat):Int)/\AI z=nV (Am0 z.cps.toList):=by
 have sy:z.cps.toList.length=z.length:=by simp[Am3]
 refine⟨intText_digits ?_ (λq=>by rw[q] at sy;simp at sy;omega) (by omega),CT ?_⟩
 .intro c hc;have:=(Ae0.mp h3) c hc;unfold MN.ek at this;rw[Ab5,gi,gi] at this;exact this
 .unfold MN.numOf;rw[bS];rw[h4,h3,iT (by omega:1<=z.cps.toList.length),iT (by omega:z.cps.toList.length<=3)];rfl
theorem T9(h:MN.numOf z.cps.toList=aS n):Aq2 z=aS (n:Int):=by
 have sy:z.cps.toList.length=z.length:=by simp[Am3]
 have e:=CT h;unfold MN.numOf at h;split at h
 .rename_i q
  simp only[Ab5,gi,AF5] at q;obtain⟨i,v⟩:=OH (z:=z) (by omega) (by omega) q.1.2 q.2;cases h;exact i
 .cases h
theorem FP(h:AI z=nV n):Aq2 z=aS (n:Int):=by
 cases e:MN.numOf z.cps.toList with
 | none=>rw[FJ e] at h;cases h
 | some m=>
  rw[CT e] at h;injection h with h;rw[T9 e,h]
theorem ifU{c:TT}{t u:TS}(P:Prop)(h2:(P->u D σ H)->Mo c t u D σ H)(h1:P->u D σ H):Mo c t u D σ H:=h2 h1
noncomputable def C9:Sp:=λvs H Q _=>∃(z:Str) (a b:Int),vs=[.str z, .int a, .int b]/\z.length<=100/\∀H',Same H H'->Q (.bl (Be (AI z) a b)) H'
noncomputable abbrev DI:Stmt:=top 73
theorem Ju:bz ["_law_word","_law_least","_law_most"] ["_law_word","_law_least","_law_most"] (Ah DI):=by w_left
theorem Jj(F:cR K "_law_number" "_law_number" DI f fd)(T:Txt K mg c):bQ P w K mg base c6 1 f fd ["_law_word","_law_least","_law_most"] C9:=by
 tbr_iter (F.ok Ju)
 .obtain⟨z,a,b,rfl,hz,k⟩:=h;have hu:=hr.cC;have sy:z.cps.toList.length=z.length:=by simp[Am3]
  refine⟨_,(Ac (Aw (PW.pt (Dm (Ak Bb (pv 0) Af (Ap _)) (Dm (Ak CI (Ai (AF (K:=K)) rfl T.ow Aj3 (Aa (pv 0) Ab)) Ad (Ap _)) (Cg (PW.pt (Fl (Ak Bb (AS JE (pv 0) Ad (λ_ _=>rfl)) Af (Ap _)) (En (Ak JH (pv 0) Af (Ap _))))))))) (Ae (Ao FC)) Aq)
   (Ac (Aw (Ak (Rn hu (K:=K)) (AD (N8 (pv 0)) (λ_ _ _ _=>(GR (Ak Hb (pv 0) Af (by with_unfolding_all rfl)))) (λ_ _ _ _=>(pv 0))) (As Ab) (Ap _)) (Ae (Ao FC)) Aq)
   (Ae (Ao (Nm IK IK (pv 1) (Au AX rfl T.ow Ar3 (Aa (pv 0) Ab)) (pv 2)))))),?_⟩
  have no:∀H',Same H H'->MN.numOf z.cps.toList=aV->Q (.bl false) H':=λH' s' e=>Vc e▸k H' s';have e0:Ai9 "0"=⟨#[48]⟩:=by decide +kernel
  refine Wh ?_;refine ifU (1<=z.length/\z.length<=3/\(decide (1<z.cps.toList.length)&&(z.cps.toList.head? == aS 48))=false) (λkey=>?_) (λhc=>?_)
  .exists Az (λh1=>?_) (λh1=>?_)
   .exists no H (Same.refl _) ?_;rw[h1];decide +kernel
   have qK:0<z.length:=by
    rcases Ai2 z.length with q | q
    .exact bV (G6 (Au6 (sy.trans q))) h1
    .exact q
   exists EB (Ab4 hz (by decide)) ?_;exists Az (λh2=>?_) (λh2=>?_)
   .exists no H (Same.refl _) ?_;unfold MN.numOf;rw[bG];intro q;simp only[Ab5,gi] at q;omega
   exists JD (c:=z.cps.toList.getD 0 0) (Ab4 hz (by decide)) (AA (j:=0) (by rw[Aa2,Aa3 (by omega)];rfl)) ?_;w_fin;have hh:z.cps.toList.head?=aS (z.cps.toList.getD 0 0):=by rw[List.head?_eq_getElem?,Aa2,Aa3 (by omega)];rfl
   refine Az (λh3=>?_) (λh3=>?_)
   .have h3':z.cps.toList.getD 0 0=48:=by
     rw[e0] at h3;exact(congrArg (λq:Str=>q.cps.toList.getD 0 0) h3)
    exists FX (λh4=>?_) (λh4=>?_)
    .exists no H (Same.refl _) ?_;unfold MN.numOf;rw[bG];intro q;have hl:1<z.cps.toList.length:=by
      rcases Nat.lt_or_ge 1 z.cps.toList.length with q | q
      .exact q
      .refine bV ?_ h4;obtain⟨⟨l⟩⟩:=z;have q:l.length<=1:=q;have qK:0<l.length:=qK;obtain⟨d,rfl⟩:=Az8.mp (by omega:l.length=1);rw[e0];exact congrArg (λd=>(⟨#[d]⟩:Str)) h3'
     simp only[Ab5] at q;have q2:=q.2;rw[hh,h3',iT hl] at q2;cases q2
    .refine key ⟨qK,by omega,?_⟩;rw[h4];decide +kernel
   .refine key ⟨qK,by omega,?_⟩;have:z.cps.toList.getD 0 0≠48:=λq=>h3 (by rw[q,e0]);rw[hh];have e:((aS (z.cps.toList.getD 0 0):Option Nat) == aS 48)=false:=by simpa using this
    rw[e,Ag8]
  obtain⟨h1,h2,h3⟩:=hc;exists ⟨z,rfl,λD hD=>?_⟩;refine Mp (λi ys H'=>∃us:List Str,ys=us.map V.str/\us.length<=i/\Same H H'/\H' D=aS (.lst ys)/\(us=[]↔(z.cps.toList.take i).all MN.ek=true)) ⟨[],rfl,Aa6 _,Al hD,upd_same,by simp⟩ ?_ ?_
  .rintro i ch ys H1 hi ⟨us,rfl,ul,s1,g1,rq⟩;refine⟨(Kp.refl _).set rfl,?_⟩;have gn:z.cps.toList[i]?=aS ch:=by rw[Ai0];exact hi
   have ilt:=(Ab8.mp gn).1;have et:(z.cps.toList.take (i+1)).all MN.ek=((z.cps.toList.take i).all MN.ek&&MN.ek ch):=by
    rw[AJ1,gn,List.all_append];simp
   exists _,_,rfl,rfl;rw[MN.qJ,MN.pF];cases hd:MN.ek ch with
   | true=>
    w_fin;exact⟨us,rfl,by omega,s1,g1,by rw[et,hd,AD8];exact rq⟩
   | false=>
    exists ⟨g1,by rw[Aa0,Aj9];omega,us++[⟨#[ch]⟩],by rw[Ac2];rfl,by rw[Aa5];show _+1<=_;omega,AG s1 hD,upd_same,?_⟩;rw[et,hd,Ag8];simp
  rintro ys H1 ⟨us,rfl,ul,s1,g1,rq⟩;rw[show z.cps.size=z.cps.toList.length by simp,Ah7] at rq;w_fin;intro p hp;refine LG (as:=us) (bs:=[]) (bx.of (Al hp _ _ g1)) (bx.of upd_same) ?_;have s2:=s1.trans (Al (o:=HO.lst []) hp);generalize upd H1 p _=H2 at s2 ⊢;exists FX (λq=>?_) (λq=>?_)
  .exists no H2 s2 ?_;unfold MN.numOf;rw[bG];intro q';simp only[Ab5] at q';exact q (rq.mpr q'.1.2)
  .obtain⟨i1,i2⟩:=OH h1 h2 (rq.mp q) h3;have fin:=k H2 s2;rw[i2] at fin;exists ⟨z,_,rfl,i1,by omega,?_⟩;w_fin;change Q (V.bl (decide (a<=_)&&decide (_<=b))) H2 at fin;refine Az (λq1=>?_) (λq1=>?_)
   .rw[iT q1,Ar5] at fin;w_fin;exact fin
   .rw[lI q1,Af6] at fin;exact fin
noncomputable def Fx:Sp:=λvs H Q _=>∃(a:Addr) (ws:List Str) (m:Nat),vs=[.ref a,nV m]/\H a=aS (.lst (ws.map V.str))/\ws.length<=200/\(∀z∈ws,z.length<=100)/\∀H',Same H H'->Q (nV (if BV m 0 ws<ws.length then BV m 0 ws+1 else 0)) H'
noncomputable abbrev DN:Stmt:=top 74
theorem cV:bz ["_law_words","_law_most","_law_last","_law_k","_law_word"] ["_law_words","_law_most"] (Ah DN):=by w_left
theorem IJ(F:cR K "_law_rising" "_law_rising" DN f fd)(T:Txt K mg c)(cT:bF P w K mg base "_law_number" 1 ["_law_word","_law_least","_law_most"] C9):bQ P w K mg base c6 2 f fd ["_law_words","_law_most"] Fx:=by
 tbr_iter (F.ok cV)
 .obtain⟨a,ws,m,rfl,ha,hl,hz,k⟩:=h;have hu:=hr.cC;refine⟨_,(Ac (Am 2 cV.nd Ad)
   (Ac (EK Al5 rfl (L4 (K:=K) rfl T.ow (Aa (pv 0) Ab)) (NA (K:=K) rfl (Cv (BB (i:=3) cV.nd rfl (Ao0 rfl)) (Cv (BB (i:=4) cV.nd rfl (Ao0 rfl)) IA))) (Ac (Aw (BI (A4 (Ag cT hr (Aa (pv 4) (Aa (Aj Av (pv 2) Ad) (Aa (pv 1) Ab)))))) (Ae (Ao (Aj Av (pv 3) Ad))) Aq)
   (Ae (Am 2 cV.nd (Au AX rfl T.ow Ar3 (Aa (pv 4) Ab))))))
   (Ae (Ao Ad)))),?_⟩
  w_fin;have rl:=Jr (m:=m) (ws:=ws) (l:=0);refine⟨a,rfl,⟨_,bx.of ha⟩,Mv (xs:=ws.map V.str) (λi σ H'=>∃(last:Nat) (x3 x4 x5:Option V),σ=[aS (.ref a),aS (nV m),aS (nV last),x3,x4]/\Same H H'/\BV m 0 ws=i+BV m last (ws.drop i)) ⟨0,_,_,aV,rfl,Same.refl _,(AG4 _).symm⟩ (λi σ H' _ ⟨_,_,_,_,_,s,_⟩=>bx.of (s _ _ ha)) ?_ ?_⟩
  .rintro i x σ H1 p hx ⟨last,x3,x4,x5,rfl,s1,nk⟩ hp;rw[Ac1] at hx;obtain⟨z,ez,rfl⟩:=Ae5.mp hx;have hi:=(Ab8.mp ez).1;have ed:ws.drop i=z::ws.drop (i+1):=by
    rw[Af7 hi];rw[Aa3 hi] at ez;rw[Ae1.inj ez]
   rw[ed] at nk;rw[G7] at nk;have s2:=Al (o:=HO.tup [.int (i:Nat), .str z]) hp;have zO:=hz _ (Ad0 ez);w_fin;rw[show ((last:Nat):Int)+1=((last+1:Nat):Int) by omega];refine⟨z,_,_,rfl,zO,λH3 s3=>?_⟩;have s13:=s1.trans (s2.trans s3);cases ha:Be (AI z) ((last+1:Nat):Int) (m:Nat) with
   | false=>
    rw[bG (by rw[ha];decide)] at nk;w_fin;have:=k H3 s13;rw[bS (by omega),show BV m 0 ws=i by omega] at this;exact this
   | true=>
    rw[bS ha] at nk;obtain⟨e1,_,_⟩:=CQ ha;exists ⟨z,_,rfl,FP e1,by omega,?_⟩;w_fin;exact⟨nO (AI z),_,_,aV,rfl,s13,by omega⟩
  .rintro σ H1 ⟨last,x3,x4,x5,rfl,s1,nk⟩;rw[Aa0,List.drop_length] at nk;w_fin;have e:BV m last []=0:=rfl;have:=k H1 s1;rw[bG (by omega)] at this;exact this
theorem Jo:∀{xs ys:List Nat},xs.Pairwise (· < ·)->ys.Pairwise (· < ·)->(∀a,a∈xs↔a∈ys)->xs=ys
 | [],[],_,_,_=>rfl
 | [],y::ys,_,_,h=>bV ((h y).mpr Ab0) (by simp)
 | x::xs,[],_,_,h=>bV ((h x).mp Ab0) (by simp)
 | x::xs,y::ys,px,py,h=>by
  rw[List.pairwise_cons] at px py;have e:x=y:=by
   rcases Aa7.mp ((h x).mp Ab0) with z | z
   .exact z
   .rcases Aa7.mp ((h y).mpr Ab0) with q | q
    .exact q.symm
    .have:=px.1 y q;have:=py.1 x z;omega
  subst e;rw[Jo px.2 py.2 λa=>?_];constructor
  .intro ha;rcases Aa7.mp ((h a).mp (Aa8 _ ha)) with z | z
   .have:=px.1 a ha;omega
   .exact z
  .intro ha;rcases Aa7.mp ((h a).mpr (Aa8 _ ha)) with z | z
   .have:=py.1 a ha;omega
   .exact z
noncomputable def jl(c:Nat):List (List Nat)->List Nat
 | []=>[]
 | [w]=>w
 | w::v::ws=>w++c::jl c (v::ws)
theorem Jc(c:Nat):∀l,jl c (MS.b9 c l)=l
 | []=>rfl
 | d::r=>by
  have ih:=Jc c r;have ne:=MS.jO c r;unfold MS.b9;split
  .rename_i h
   subst h;cases e:MS.b9 d r with
   | nil=>exact bV e ne
   | cons w ws=>
    rw[e] at ih;show []++d::jl d (w::ws)=_;rw[ih];rfl
  .split
   .rename_i e
    exact bV e ne
   .rename_i w ws e
    rw[e] at ih;cases ws with
    | nil=>
     have ih:w=r:=ih;show d::w=_;rw[ih]
    | cons v vs=>
     have ih:w++c::jl c (v::vs)=r:=ih;show (d::w)++c::jl c (v::vs)=_;rw[Aq8,ih]
theorem Qg{y:Str}(h:y.cps.toList=z.cps.toList):y=z:=by
 obtain⟨⟨l⟩⟩:=y;obtain⟨⟨m⟩⟩:=z;have h:l=m:=h;rw[h]
theorem PH{y:Str}(hy:y.cps.toList≠[])(hz:z.cps.toList≠[])(h:Ai8 y "+"=Ai8 z "+"):y=z:=by
 rw[GZ] at h;have e1:=MS.fm y 43 (by decide) hy;have e2:=MS.fm z 43 (by decide) hz;rw[h] at e1;have:=congrArg (jl 43) (e1.symm.trans e2);rw[Jc,Jc] at this;exact Qg this
theorem Zd:∀i:Nat,i<10->[48+i]=(tN (Am0 [48+i])).cps.toList:=by decide +kernel
theorem YE:∀i:Nat,i<10->∀j:Nat,j<10->i≠0->Am0 [48+i,48+j]<=16->[48+i,48+j]=(tN (Am0 [48+i,48+j])).cps.toList:=by decide +kernel
theorem Z9:∀i:Nat,i<10->∀j:Nat,j<10->∀k:Nat,k<10->i≠0->¬ Am0 [48+i,48+j,48+k]<=16:=by decide +kernel
theorem Hs{c:Nat}(h:MN.ek c=true):∃i,i<10/\c=48+i:=by
 unfold MN.ek at h;rw[Ab5,gi,gi] at h;exact⟨c - 48,by omega,by omega⟩
theorem SA(h:MN.numOf cs=aS n)(hn:n<=16):cs=(tN n).cps.toList:=by
 unfold MN.numOf at h;split at h
 .rename_i q
  cases h;simp only[Ab5,gi,AF5,Ae0] at q;obtain⟨⟨⟨q1,q2⟩,q3⟩,q4⟩:=q
  match cs,q1,q2,q3,q4,hn with
  | [a],_,_,q3,_,_=>
   obtain⟨i,hi,rfl⟩:=Hs (q3 a (by simp));exact Zd i hi
  | [a,b],_,_,q3,q4,hn=>
   obtain⟨i,hi,rfl⟩:=Hs (q3 a (by simp));obtain⟨j,hj,rfl⟩:=Hs (q3 b (by simp));refine YE i hi j hj (λz=>?_) hn;subst z;simp at q4
  | [a,b,d],_,_,q3,q4,hn=>
   obtain⟨i,hi,rfl⟩:=Hs (q3 a (by simp));obtain⟨j,hj,rfl⟩:=Hs (q3 b (by simp));obtain⟨k,hk,rfl⟩:=Hs (q3 d (by simp));refine bV hn (Z9 i hi j hj k hk λz=>?_);subst z;simp at q4
 .cases h
theorem HG(h:AI z=nV n)(hn:n<=16):z=tN n:=by
 cases e:MN.numOf z.cps.toList with
 | none=>rw[FJ e] at h;cases h
 | some m=>
  rw[CT e] at h;injection h with h;have h:m=n:=by omega
  subst h;exact Qg (SA e hn)
theorem NZ(h:ws.map AI=ns.map nV)(hn:∀n∈ns,n<=16):ws=ns.map tN:=by
 induction ws generalizing ns with
 | nil=>cases ns with
  | nil=>rfl
  | cons n ns=>cases h
 | cons w ws ih=>cases ns with
  | nil=>cases h
  | cons n ns=>
   rw[Ac3,Ac3] at h;injection h with h1 h2;rw[Ac3,HG h1 (hn n (by simp)),ih h2 λn qA=>hn n (by simp[qA])]
theorem FQ{m:Nat}:∀{ns:List Nat} {l:Nat},CW l m ns->ns.Pairwise (· < ·)/\∀n∈ns,l<n/\n<=m
 | [],_,_=>⟨AA5,λn hn=>by cases hn⟩
 | n::ns,l,h=>by
  obtain⟨h1,h2⟩:=FQ h.2.2;have:=h.1;refine⟨List.pairwise_cons.mpr ⟨λx hx=>(h2 x hx).1,h1⟩,λx hx=>?_⟩;rcases Aa7.mp hx with rfl | hx
  .exact⟨this,h.2.1⟩
  .have:=h2 x hx;exact⟨by omega,this.2⟩
theorem KR(h:CW 0 m ns):Ce (MM.pH ns) m=ns:=by
 obtain⟨h1,h2⟩:=FQ h;refine Jo ?_ h1 λa=>?_
 .unfold Ce;rw[List.pairwise_map];exact(List.pairwise_lt_range.filter _).imp λh=>Nat.succ_lt_succ h
 .unfold Ce;rw[Ac4];constructor
  .rintro⟨i,hi,rfl⟩;rw[Ah0,MM.lR,AG9] at hi;obtain⟨n,hn,e⟩:=hi.2;have:=h2 n hn;have e:=of_decide_eq_true e;rw[show i+1=n by omega];exact hn
  .intro ha;have:=h2 a ha;refine⟨a - 1,Ah0.mpr ⟨Ae4.mpr (by omega),?_⟩,by omega⟩;rw[MM.lR,AG9];exact⟨a,ha,iT rfl⟩
noncomputable def picks(m:Nat):List Str:=("-":Str)::(Ab7 (2 ^ m - 1)).map λk=>Ak4 "+" ((Ce (k+1) m).map tN)
theorem Hj(k m:Nat):CW 0 m (Ce k m):=GD (Fv _ m)
theorem Ow(h:k+1<2 ^ m):Ce (k+1) m≠[]:=λz=>by
 have e:=MM.mS (k+1) m h;have e2:=MM.uL (m:=0) (w:=m) (f:=(k+1).testBit) (AB4 m) λi hi=>by
  rw[Nat.zero_testBit];cases q:(k+1).testBit i with
  | false=>rfl
  | true=>
   unfold Ce at z;have:=List.map_eq_nil_iff.mp z;have hm:i∈(Ab7 m).filter (k+1).testBit:=Ah0.mpr ⟨Ae4.mpr hi,q⟩;rw[this] at hm;cases hm
 omega
theorem On(hm:m<=16)(h:CW 0 m ns):fP m (BW ns)=true:=by
 have nN:∀n∈ns,n<=16:=λn hn=>by have:=((FQ h).2 n hn).2;omega
 unfold fP;rw[Hl nN,gi];have key:∀{ns:List Nat} {l:Nat},CW l m ns->BV m l (ns.map tN)=(ns.map tN).length:=λ{ns}=>by
  induction ns with
  | nil=>intro l _;rfl
  | cons n ns ih=>
   intro l h;have e:=IL (n:=n) (by have:=h.2.1;omega);rw[Ac3,G7,e];have h1:=h.1;have h2:=h.2.1;have g:Be (nV n) ((l+1:Nat):Int) ((m:Nat):Int)=true:=(show (decide (((l+1:Nat):Int)<=((n:Nat):Int))&&decide (((n:Nat):Int)<=((m:Nat):Int)))=true by rw[iT (by omega),iT (by omega)];rfl);rw[bS g];show BV m n _+1=_;rw[ih h.2.2];rfl
 exact key h
theorem Ky(hm:m<=16):Eb (picks m)=fP m:=by
 funext z;show rF (.str z) ((picks m).map V.str)=_;rw[FM,Ad5,gi];constructor
 .intro h;rcases Aa7.mp h with rfl | h
  .exact On (ns:=[]) hm trivial
  .obtain⟨k,hk,rfl⟩:=Ac4.mp h;have hk:=Ae4.mp hk;have:=On hm (Hj (k+1) m);unfold BW at this;rw[bG (Ow (by omega))] at this;exact this
 .intro h;obtain⟨r1,r2⟩:=Er (of_decide_eq_true h);by_cases hz:z="-"
  .rw[hz];exact Ab0
  refine Aa8 _ (Ac4.mpr ?_);have e:A2 z=Ai8 z "+":=bG hz;have pw:=(FQ r1).2;have nN:∀n∈AQ (A2 z),n<=16:=λn hn=>by have:=(pw n hn).2;omega
  have wu:=NZ r2 nN;have zne:z.cps.toList≠[]:=λq=>by
   rw[G6 q] at h;unfold fP at h;have h:=of_decide_eq_true h;rw[show A2 ""=[("":Str)] by decide +kernel] at h;have:BV m 0 [("":Str)]=0:=by
    rw[G7,bG];rw[show AI ""= .bC by decide +kernel];exact λz=>by cases z
   rw[this] at h;cases h
  generalize AQ (A2 z)=ns at r1 r2 pw nN wu;have nn:ns≠[]:=λq=>by
   rw[q,e] at wu;have:=MS.fm z 43 (by decide) zne;rw[<-GZ,wu] at this;exact MS.jO 43 _ this.symm
  have hp:BW ns=Ak4 "+" (ns.map tN):=bG nn;have zp:z=BW ns:=by
   refine PH zne (LD nN ?_).ne ?_
   .have:=B9 r1 (Ad4 _);omega
   .have t:=Hl nN;rw[<-wu] at t;rw[<-e, <-t];unfold A2;rw[bG];intro q;rw[q] at t;rw[show A2 "-"=[] by decide +kernel,wu] at t;exact nn (by simpa using t.symm)
  have mp:1<=MM.pH ns:=by
   rcases Ai2 (MM.pH ns) with q | q
   .have:=KR r1;rw[q] at this;have e0:Ce 0 m=[]:=by
     unfold Ce;rw[Az6.mpr λi _=>by simp];rfl
    exact bV (this.symm.trans e0) nn
   .exact q
  have ml:MM.pH ns<2 ^ m:=MM.uM λn hn=>by have:=pw n hn;omega
  refine⟨MM.pH ns - 1,Ae4.mpr (by omega),?_⟩;rw[show MM.pH ns - 1+1=MM.pH ns by omega,KR r1,zp,hp]
noncomputable def F6:Sp:=λvs H Q _=>∃m:Nat,vs=[nV m]/\m<=16/\∀H' p,Same H H'->H p=aV->H' p=aS (.lst ((picks m).map V.str))->Q (.ref p) H'
noncomputable abbrev Ek:Stmt:=top 75
theorem fW:bz ["_law_most","_law_found","_law_mask"] ["_law_most"] (Ah Ek):=by w_left
theorem JT(F:cR K "_law_picks" "_law_picks" Ek f fd)(T:Txt K mg c)(cI:bF P w K mg base "_law_numbers" 1 ["_law_mask","_law_most"] CG):bQ P w K mg base c6 2 f fd ["_law_most"] F6:=by
 tbr_iter (F.ok fW)
 .obtain⟨m,rfl,hm,k⟩:=h;have hu:=hr.cC;refine⟨_,(Ac (Am 1 fW.nd (As (Aa Af Ab)))
   (Ac (EK Al5 rfl (KI rfl T.ow (Aa Ad (Aa (Aj Og Ad (pv 0)) Ab))) (BB (i:=2) fW.nd rfl (Ao0 rfl)) (Ae (AL (Bl (K:=K) Aj0 Aj6 Aj7 A0 (pv 1) (Aa (Bl (K:=K) Aj5 At1 At2 (LB (K:=K)) Af (Aa (AD (Bp (K:=K) (Ag cI hr (Aa (pv 2) (Aa (pv 0) Ab)))) (λ_ _ _ _=>AC) (λ_ _ _ _=>(Au HJ rfl T.ow As6 (Aa (pv 0) Ab)))) Ab)) Ab)))))
   (Ae (Ao (pv 1))))),?_⟩
  w_fin;row_lines H x1;exists AE ⟨by omega,by omega,by decide⟩ ?_;have pl:2 ^ m<=65536:=Nat.pow_le_pow_right (by decide) hm (n:=2);have pp:=AB4 m;w_fin;rw[show (1:Int)*2 ^ ((m:Nat):Int).toNat=((2 ^ m:Nat):Int) by rw[Ad3];push_cast;omega];refine⟨_,_,rfl,⟨by decide,by decide,by omega,by omega⟩,?_⟩;rw[show (((2 ^ m:Nat):Int) - 1).toNat=2 ^ m - 1 by omega];refine Ea (H0:=H) (ME (n:=2 ^ m - 1)) (λi σ H'=>∃x2,σ=[aS (nV m),aS (.ref p1),x2]/\Same H H'/\H' p1=aS (.lst ((("-":Str)::(Ab7 i).map λk=>Ak4 "+" ((Ce (k+1) m).map tN)).map V.str))) ⟨_,rfl,s1,g1⟩ (λi σ H' ⟨_,_,s,_⟩=>s) ?_ ?_
  .rintro i σ H2 H3 hi ⟨x2,rfl,s2,g2⟩ s3;have g3:=s3 _ _ g2;exists mw (bx.of g3) ?_;exists rK ?_;w_fin;rw[show (1:Int)+((i:Nat):Int)=((i+1:Nat):Int) by omega];have rs:=Hj (i+1) m;have rl:=B9 rs (Ad4 _);have rp:=(FQ rs).2;refine⟨i+1,m,rfl,by omega,λH4 p4 s4 n4 g4=>?_⟩;generalize en:Ce (i+1) m=ns at rs rl rp g4;exists ⟨p4,rfl,⟨_,bx.of g4⟩,λD hD=>?_⟩;refine Cm (G:=λi=>tN (ns.getD i 0)) (AH (bx.of g4) rfl) hD (by rw[Aa0];omega) ?_ ?_
   .intro i H' R hi s kk;rw[Aa0] at hi;rw[getD_map (e:=0) hi];exists ⟨_,rfl,Ft (by have:=(rp _ (L2.getD_mem (y:=0) hi)).2;omega),kk H' (Same.refl _)⟩
   intro H5 s5 g5;rw[Aa0,A7] at g5;exists _,D,ns.map tN,rfl,rfl,bx.of g5,?_
   .have:=IG (zs:=ns.map tN) (c:=2) (λz hz=>by
     obtain⟨n,h1,rfl⟩:=Ac4.mp hz;exact LA n (by have:=(rp n h1).2;omega))
    rw[Aa0] at this ⊢;show _+ns.length*1<=_;omega
   w_fin;have s35:=s4.trans s5;refine BU (s35 _ _ g3) (by rw[Aa0,Aa9,Aa0,List.length_range];omega) ?_;refine⟨_,rfl,?_,?_⟩
   .exact AG (s2.trans (s3.trans s35)) n1
   .rw[upd_same,Av0,Ac2, <-Aq8,Ac2, <-en];rfl
  .rintro σ H2 ⟨x2,rfl,s2,g2⟩;w_fin;exact k H2 p1 s2 n1 g2
noncomputable def ki(r:Addr)(i:Nat)(w:V):List (Key×V):=[(.inr "rows", .ref r),(.inr "row",nV i),(.inr "wrong",w)]
section
variable {r:Addr}{w v:V}
theorem S9:Eg (ki r i w) (.inr "rows")=aS (.ref r):=by rfl
theorem BQ:Eg (ki r i w) (.inr "row")=aS (nV i):=by rfl
theorem BK:Eg (ki r i w) (.inr "wrong")=aS w:=by rfl
theorem VW:DL (ki r i w) (.inr "row") (nV j)=ki r j w:=by rfl
theorem RV:DL (ki r i w) (.inr "wrong") v=ki r i v:=by rfl
end
structure nq(r:List Str):Prop where
 ne:r≠[]
 len:r.length<=200
 le:∀z∈r,z.length<=100
 op:∀z∈r,C4 z=40->z∈S8
 ops:ia r<=64
structure jJ(H:Hp)(d rp:Addr)(as:List Addr)(rows:List (List Str))(i:Nat)(w:V):Prop where
 st:H d=aS (.dK (ki rp i w))
 jY:dI H rp as rows
 ok:∀r∈rows,nq r
 ln:rows.length<=900
theorem gy.dx{d:Addr}{kv:List (Key×V)}(hd:H d=aS (.dK kv))(x:bP (Dx d) H H'):∀{as:List Addr} {us:List (List Str)},gy H as us->gy H' as us
 | [],[],_=>trivial
 | _::_,_::_,h=>⟨x.st _ _ h.1 (λz=>by have h1:=h.1;rw[z,hd] at h1;cases h1),gy.dx hd x h.2⟩
theorem jJ.on{w v:V}(h:jJ H d rp as rows i w)(x:bP (Dx d) H H')(e:H' d=aS (.dK (ki rp j v))):jJ H' d rp as rows j v:=
 ⟨e,⟨x.st _ _ h.jY.at' (λz=>by have h1:=h.jY.at';rw[z,h.st] at h1;cases h1),h.jY.el.dx h.st x,h.jY.nr⟩,h.ok,h.ln⟩
structure k9(H H':Hp)(d rp:Addr)(i:Nat)(e:Nat×Nat):Prop where
 x:bP (Dx d) H H'
 st:∃q,H' d=aS (.dK (ki rp i (.ref q)))/\H q=aV/\H' q=aS (.tup [nV e.1,nV e.2])
structure kj(H H':Hp)(d rp:Addr)(i:Nat):Prop where
 x:bP (Dx d) H H'
 st:H' d=aS (.dK (ki rp i .bC))
theorem kj.same(g:kj H H' d rp i)(s:Same H' gx):kj H gx d rp i:=⟨g.x.trans (bP.of s),s _ _ g.st⟩
theorem Ej{e:Nat×Nat}(g:kj H H' d rp i)(hq:H' q=aV):mQ (upd H' q (.tup [nV e.1,nV e.2])) d (.str "wrong") (.ref q) (upd (upd H' q (.tup [nV e.1,nV e.2])) d (.dK (ki rp i (.ref q))))/\k9 H (upd (upd H' q (.tup [nV e.1,nV e.2])) d (.dK (ki rp i (.ref q)))) d rp i e:=by
 have g1:=g.same (Al (o:= .tup [nV e.1,nV e.2]) hq);refine⟨pS g1.st (by show 3<100;decide) RV,CC g1.x,q,upd_same,g.x.free hq,?_⟩;rw[An (λz=>by rw[z,g.st] at hq;cases hq),upd_same]
noncomputable def Cq:Sp:=λvs H Q _=>∃(d rp:Addr) (as:List Addr) (rows:List (List Str)) (i:Nat) (nm:Str),vs=[.ref d, .str nm]/\jJ H d rp as rows i .bC/\i<=900/\
 (∀ws H' p,kg rows i nm= .ok ws->kj H H' d rp (i+1)->H p=aV->H' p=aS (.lst (ws.map V.str))->Q (.ref p) H')/\∀e H',kg rows i nm= .error e->k9 H H' d rp (i+1) e->Q .bC H'
noncomputable abbrev EH:Stmt:=top 76
theorem fX:bz ["_law_state","_law_name","_law_rows_here","_law_words"] ["_law_state","_law_name"] (Ah EH):=by w_left
theorem J2(F:cR K "_law_named" "_law_named" EH f fd)(T:Txt K mg c):bQ P w K mg base c6 1 f fd ["_law_state","_law_name"] Cq:=by
 tbr_iter (F.ok fX)
 .obtain⟨d,rp,as,rows,i,nm,rfl,S,hi,kQ,kE⟩:=h;have hu:=hr.cC;have dh:=hr.ig;refine⟨_,(Ac (Bj dh (pv 0) Af (Aj Av (Ay dh (pv 0) Af (λ_ _=>rfl)) Ad) rfl)
   (Ac (Am 2 fX.nd (Ay dh (pv 0) Af (λ_ _=>rfl)))
   (Ac (Aw (PW.pt (Dm (Ak CI (Ay dh (pv 0) Af (λ_ _=>rfl)) (Ai (AF (K:=K)) rfl T.ow Aj3 (Aa (pv 2) Ab)) (Ap _)) (Cg (Ak (XX (K:=K)) Af (AS (Bt (K:=K)) (pv 2) (Aj FE (Ay dh (pv 0) Af (λ_ _=>rfl)) Ad) (λ_ _=>rfl)) (by with_unfolding_all rfl))))) (Ac (Bj dh (pv 0) Af (AY (Aa (Ay dh (pv 0) Af (λ_ _=>rfl)) (Aa Ad Ab))) rfl)
   (Ae (Ao AV))) Aq)
   (Ac (Am 3 fX.nd (AS (Bt (K:=K)) (pv 2) (Aj FE (Ay dh (pv 0) Af (λ_ _=>rfl)) Ad) (λ_ _=>rfl)))
   (Ac (Aw (Ak JH (AS (Bt (K:=K)) (pv 3) Ad (λ_ _=>rfl)) (pv 1) (Ap _)) (Ac (Bj dh (pv 0) Af (AY (Aa (Ay dh (pv 0) Af (λ_ _=>rfl)) (Aa Ad Ab))) rfl)
   (Ae (Ao AV))) Aq)
   (Ae (Ao (AM (BY (K:=K)) (pv 3) (AJ Ad) A5)))))))),?_⟩
  exists d,_,rfl,gS S.st BQ;exists d,_,rfl,pS (v:=nV (i+1)) S.st (by show 3<100;decide) VW;have x1:=CC (o:= .dK (ki rp (i+1) .bC)) (bP.of (W:=Dx d) (Same.refl H));have jH:upd H d (.dK (ki rp (i+1) .bC)) d=_:=upd_same;generalize upd H d _=H1 at x1 jH ⊢;have S1:=S.on x1 jH;have G1:kj H H1 d rp (i+1):=⟨x1,jH⟩;exists d,_,rfl,gS jH S9;exists d,_,rfl,gS jH BQ;w_fin;have lE:=S1.jY.el.len;refine Ax (bx.of S1.jY.at') ?_;rw[Aa0,lE];exists Az (λh1=>?_) (λh1=>?_)
  .exists d,_,rfl,gS jH BQ;w_fin;intro q hq;obtain⟨a1,a2⟩:=Ej (e:=(i+1,0)) G1 hq;exists d,_,rfl,a1;exists kE _ _ ?_ a2;unfold kg;rw[Ai3 (by omega)]
  have xA:i<rows.length:=by omega
  have er:rows[i]?=aS (rows.getD i []):=by rw[Aa2,Aa3 xA];rfl
  obtain⟨a,ea,ga⟩:=S1.jY.el.get er;have rok:=S1.ok _ (Ad0 er);have av:mK (as.map V.ref) (((i+1:Nat):Int) - 1)=aS (.ref a):=by
   rw[show ((i+1:Nat):Int) - 1=((i:Nat):Int) by omega];exact AA (by rw[Ac1,ea];rfl)
  generalize rows.getD i []=r at er ga rok;have em:∀{x:Rs (List Str)},(if ("":Str)∈r then .error (i+1,0) else if r.getD 0 ""=nm then .ok (r.drop 1) else .error (i+1,1))=x->kg rows i nm=x:=λh=>by
   unfold kg;rw[er];exact h
  obtain⟨z,zs,rfl⟩:∃z zs,r=z::zs:=by
   cases r with
   | nil=>exact bV rfl rok.ne
   | cons z zs=>exact⟨z,zs,rfl⟩
  exists d,_,rfl,gS jH BQ;exists AU (bx.of S1.jY.at') av ?_;exists ⟨a,_,rfl, .inl (bx.of ga),rfl,by simp[Bx],?_⟩;rw[FM];by_cases hn:("":Str)∈z::zs
  .rw[iT hn];w_fin;rw[bS (show (if false=true then !true else true)=true by decide)];exists d,_,rfl,gS jH BQ;w_fin;intro q hq;obtain⟨a1,a2⟩:=Ej (e:=(i+1,0)) G1 hq;exists d,_,rfl,a1;w_fin;exact kE _ _ (em (bS hn)) a2
  rw[lI hn];w_fin;rw[bG (show ¬ (if false=true then !false else false)=true by decide)];exists d,_,rfl,gS jH BQ;exists AU (bx.of S1.jY.at') av ?_;exists AU (bx.of ga) (AA (j:=0) (v:= .str z) rfl) ?_;exists FX (λq=>?_) (λq=>?_)
  .exists d,_,rfl,gS jH BQ;w_fin;intro q' hq;obtain⟨a1,a2⟩:=Ej (e:=(i+1,1)) G1 hq;exists d,_,rfl,a1;w_fin;exact kE _ _ (em ((bG hn).trans (bG q))) a2
  .exists Bo (bx.of ga) ?_;rw[Hc (by decide),show (z::zs).map V.str=V.str z::zs.map V.str from rfl,show ((1:Int).toNat)=1 from rfl,List.drop_one,List.tail_cons];row_lines H1 x2;exact kQ zs H2 p2 (em ((bG hn).trans (bS q))) (G1.same s2) (x1.free n2) g2
theorem kj.lst{d rp:Addr}{kv:List (Key×V)}{xs:List V}(g:kj H H' d rp i)(hd:H d=aS (.dK kv))(h:H a=aS (.lst xs)):H' a=aS (.lst xs):=g.x.st _ _ h λz=>by rw[z,hd] at h;cases h
theorem NX(ok:∀r∈rows,nq r)(h:kg rows i nm= .ok ws):ws.length<=200/\(∀z∈ws,wL z)/\ia ws<=64:=by
 unfold kg at h;split at h
 .cases h
 .rename_i r er
  split at h
  .cases h
  .rename_i hn
   split at h
   .cases h;have o:=ok r (Ad0 er);refine⟨by have:=o.len;rw[Ad2];omega,λz hz=>?_,Ab4 (Iz (Ax8 ..)) o.ops⟩;have hz:=Aq6 hz;refine⟨?_,o.le z hz,o.op z hz⟩;rcases Ai2 z.length with q | q
    .refine bV ?_ hn;rw[<-G6 (Au6 (by rw[Fk];exact q))];exact hz
    .exact q
   .cases h
theorem k9.same{e:Nat×Nat}(w:k9 H H' d rp i e)(s:Same H' gx):k9 H gx d rp i e:=by
 obtain⟨x,q,h1,h2,h3⟩:=w;exact⟨x.trans (bP.of s),q,s _ _ h1,h2,s _ _ h3⟩
noncomputable def CF:Sp:=λvs H Q _=>∃(d rp:Addr) (as:List Addr) (rows:List (List Str)) (i:Nat) (nm:Str),vs=[.ref d, .str nm]/\jJ H d rp as rows i .bC/\i<=900/\
 (∀n H',ER rows i nm= .ok n->1<=n->n<=16->kj H H' d rp (i+1)->Q (nV n) H')/\∀e n H',ER rows i nm= .error e->n<=16->k9 H H' d rp (i+1) e->Q (nV n) H'
noncomputable abbrev Di:Stmt:=top 77
theorem gW:bz ["_law_state","_law_name","_law_words"] ["_law_state","_law_name"] (Ah Di):=by w_left
theorem Ig(F:cR K "_law_counted" "_law_counted" Di f fd)(T:Txt K mg c)(cF:bF P w K mg base "_law_named" 1 ["_law_state","_law_name"] Cq)(cT:bF P w K mg base "_law_number" 1 ["_law_word","_law_least","_law_most"] C9):bQ P w K mg base c6 2 f fd ["_law_state","_law_name"] CF:=by
 tbr_iter (F.ok gW)
 .obtain⟨d,rp,as,rows,i,nm,rfl,S,hi,kQ,kE⟩:=h;have hu:=hr.cC;have dh:=hr.ig;refine⟨_,(Ac (Am 2 gW.nd (Ag cF hr (Aa (pv 0) (Aa (pv 1) Ab))))
   (Ac (Aw (Ak Fq (pv 2) AV (Ap _)) (Ae (Ao Ad)) Aq)
   (Ac (Aw (PW.pt (Dm (Ak (DZ hu (K:=K)) (pv 2) (As Ab) (Ap _)) (Cg (BI (A4 (Ag cT hr (Aa (AS (Bt (K:=K)) (pv 2) Ad (λ_ _=>rfl)) (Aa Ad (Aa Ad Ab))))))))) (Ac (Bj dh (pv 0) Af (AY (Aa (Ay dh (pv 0) Af (λ_ _=>rfl)) (Aa Ad Ab))) rfl)
   (Ae (Ao Ad))) Aq)
   (Ac (Aw (Ak CI (Ai (AF (K:=K)) rfl T.ow Aj3 (Aa (pv 2) Ab)) Ad (Ap _)) (Ae (Bj dh (pv 0) Af (AY (Aa (Ay dh (pv 0) Af (λ_ _=>rfl)) (Aa Ad Ab))) rfl)) Aq)
   (Ae (Ao (Au AX rfl T.ow Ar3 (Aa (AS (Bt (K:=K)) (pv 2) Ad (λ_ _=>rfl)) Ab)))))))),?_⟩
  exists ⟨d,rp,as,rows,i,nm,rfl,S,hi,λws H1 p e G n1 g1=>?_,λe H1 er W=>?_⟩;rotate_left
  .exists ⟨rfl,?_⟩;exists Az (λ_=>?_) (λq=>bV rfl q);w_fin;exact kE e 0 H1 (AT er) (by decide) W
  obtain⟨wl,vI,_⟩:=NX S.ok e;exists ⟨rfl,?_⟩;exists Az (λq=>by cases q) (λ_=>?_);w_fin;row_lines H1 x2;refine Cr (as:=ws) (bs:=[]) (bx.of (s2 _ _ g1)) (bx.of g2) ?_;have G2:=G.same s2;w_fin;cases ws with
  | nil=>
   refine Az (λ_=>?_) (λq=>bV rfl q);exists d,_,rfl,gS G2.st BQ;w_fin;intro q hq;obtain⟨a1,a2⟩:=Ej (e:=(i+1,2)) G2 hq;exists d,_,rfl,a1;w_fin;exact kE _ 0 _ (Ar e (bS (.inl rfl))) (by decide) a2
  | cons z zs=>
   refine Az (λq=>by cases q) (λ_=>?_);have gw:=s2 _ _ g1;exists AU (bx.of gw) (AA (j:=0) (v:= .str z) rfl) ?_;exists ⟨z,1,16,rfl,(vI z (by simp)).le,λH3 s3=>?_⟩;have G3:=G2.same s3;have vJ:=s3 _ _ gw;cases ha:Be (AI z) 1 16 with
   | false=>
    exists d,_,rfl,gS G3.st BQ;w_fin;intro q hq;obtain⟨a1,a2⟩:=Ej (e:=(i+1,2)) G3 hq;exists d,_,rfl,a1;w_fin;exact kE _ 0 _ (Ar e (bS (.inr ha))) (by decide) a2
   | true=>
    obtain⟨e1,e2,e3⟩:=CQ ha;have hn:¬ ((z::zs)=[]\/Be (AI ((z::zs).getD 0 "")) 1 16=false):=λq=>q.elim (λq=>by cases q) (λq=>by have q:Be (AI z) 1 16=false:=q;rw[ha] at q;cases q);have zl:=(vI z (by simp)).le;exists Ax (bx.of vJ) ?_;rw[Aa0];exists Az (λq=>?_) (λq=>?_)
    .exists d,_,rfl,gS G3.st BQ;w_fin;intro q' hq;obtain⟨a1,a2⟩:=Ej (e:=(i+1,3)) G3 hq;exists d,_,rfl,a1;have gw4:upd (upd H3 q' (.tup [nV (i+1),nV 3])) d (.dK (ki rp (i+1) (.ref q'))) p=aS (.lst ((z::zs).map V.str)):=by
      rw[An (λz=>by rw[z,G3.st] at vJ;cases vJ),An (λz=>by rw[z,hq] at vJ;cases vJ)];exact vJ
     exists AU (bx.of gw4) (AA (j:=0) (v:= .str z) rfl) ?_;w_fin;exact⟨z,_,rfl,FP e1,by omega,kE _ _ _ (Ar e ((bG hn).trans (bS (by omega)))) (by omega) a2⟩
    .exists AU (bx.of vJ) (AA (j:=0) (v:= .str z) rfl) ?_;w_fin;exact⟨z,_,rfl,FP e1,by omega,kQ _ _ (Ar e ((bG hn).trans (bG (by omega)))) (by omega) (by omega) G3⟩
noncomputable def Fw:Sp:=λvs H Q _=>∃(d rp:Addr) (as:List Addr) (rows:List (List Str)) (i:Nat) (nm:Str) (mx least:Nat) (g:Addr) (gs:List Str) (fits:Str->Bool),vs=[.ref d, .str nm,nV mx, .ref g,nV least]/\jJ H d rp as rows i .bC/\i<=900/\H g=aS (.lst (gs.map V.str))/\Eb gs=fits/\mx<=60/\
 (∀out H' p,iR rows i nm fits mx least= .ok out->kj H H' d rp (i+1)->H p=aV->H' p=aS (.lst (out.map V.str))->Q (.ref p) H')/\∀e v H',iR rows i nm fits mx least= .error e->k9 H H' d rp (i+1) e->Q v H'
noncomputable abbrev DM:Stmt:=top 78
theorem fK:bz ["_law_state","_law_name","_law_most","_law_goods","_law_least","_law_words","_law_due_here"] ["_law_state","_law_name","_law_most","_law_goods","_law_least"] (Ah DM):=by w_left
theorem Jx(F:cR K "_law_itemed" "_law_itemed" DM f fd)(T:Txt K mg c)(cF:bF P w K mg base "_law_named" 1 ["_law_state","_law_name"] Cq)(ju:bF P w K mg base "_law_due" 131 ["_law_words","_law_most","_law_goods"] Ie):bQ P w K mg base c6 132 f fd ["_law_state","_law_name","_law_most","_law_goods","_law_least"] Fw:=by
 tbr_iter (F.ok fK)
 .obtain⟨d,rp,as,rows,i,nm,mx,least,g,gs,fits,rfl,S,hi,hg,rfl,hm,kQ,kE⟩:=h;have hu:=hr.cC;have dh:=hr.ig;refine⟨_,(Ac (Am 5 fK.nd (Ag cF hr.mo (Aa (pv 0) (Aa (pv 1) Ab))))
   (Ac (Aw (Ak Fq (pv 5) AV (Ap _)) (Ae (Ao (As Ab))) Aq)
   (Ac (Am 6 fK.nd (Ag ju hr (Aa (pv 5) (Aa (pv 2) (Aa (pv 3) Ab)))))
   (Ac (Aw (BI (A4 (Ai (BP (K:=K)) rfl T.ow Aj1 (Aa (pv 6) (Aa (Ca rfl T.ow AR) Ab))))) (Ac (Bj dh (pv 0) Af (AY (Aa (Ay dh (pv 0) Af (λ_ _=>rfl)) (Aa (Aj Av (pv 6) Ad) Ab))) rfl)
   (Ae (Ao (As Ab)))) Aq)
   (Ac (Aw (Ak Ic (Ai (AF (K:=K)) rfl T.ow Aj3 (Aa (pv 6) Ab)) (pv 4) (Ap _)) (Ae (Bj dh (pv 0) Af (AY (Aa (Ay dh (pv 0) Af (λ_ _=>rfl)) (Aa (Aj Av (Ai (AF (K:=K)) rfl T.ow Aj3 (Aa (pv 5) Ab)) Ad) Ab))) rfl)) Aq)
   (Ae (Ao (pv 6)))))))),?_⟩
  exists ⟨d,rp,as,rows,i,nm,rfl,S,hi,λws H1 p e G n1 g1=>?_,λe H1 er W=>?_⟩;rotate_left
  .exists ⟨rfl,?_⟩;exists Az (λ_=>?_) (λq=>bV rfl q);w_fin;intro q hq;exact kE e _ _ (AT er) (W.same (Al hq))
  obtain⟨wl,vI,wo⟩:=NX S.ok e;exists ⟨rfl,?_⟩;exists Az (λq=>by cases q) (λ_=>?_);exists ⟨p,ws,mx,g,gs,rfl,g1,G.lst S.st hg,⟨vI,wl,hm,wo⟩,λout cn H2 p2 qq gh s2 n2 g2=>?_,λpl H2 he s2=>?_⟩
  .have G2:=G.same s2;exists Bi (.lst g2) (kb (b:=true) (by decide +kernel)) ?_;exists Ax (bx.of g2) ?_;rw[Aa0];exists Az (λq=>?_) (λq=>?_)
   .exists d,_,rfl,gS G2.st BQ;exists Ax (bx.of (s2 _ _ g1)) ?_;rw[Aa0];w_fin;rw[show ((ws.length:Nat):Int)+2=((ws.length+2:Nat):Int) by omega];intro q' hq;obtain⟨a1,a2⟩:=Ej (e:=(i+1,ws.length+2)) G2 hq;exists d,_,rfl,a1;w_fin;exact kE _ _ _ (QD e (N3 qq gh) (by omega)) a2
   .w_fin;exact kQ out H2 p2 (OO e (N3 qq gh) (by omega)) G2 (G.x.free n2) g2
  .have G2:=G.same s2;exists Bi (.int _) (kb (b:=false) (by decide +kernel)) ?_;exists d,_,rfl,gS G2.st BQ;w_fin;rw[show ((pl:Nat):Int)+1=((pl+1:Nat):Int) by omega];intro q' hq;obtain⟨a1,a2⟩:=Ej (e:=(i+1,pl+1)) G2 hq;exists d,_,rfl,a1;w_fin;intro q3 hq3;exact kE _ _ _ (Pb e (SK he)) (a2.same (Al hq3))
noncomputable def GL:Sp:=λvs H Q _=>∃(d rp:Addr) (as:List Addr) (rows:List (List Str)) (i sh:Nat),vs=[.ref d,nV sh]/\jJ H d rp as rows i .bC/\i<=900/\sh<=16/\
 (∀l H' p,Hr rows i sh= .ok l->kj H H' d rp (i+1)->H p=aV->H' p=aS (.lst (l.map nV))->Q (.ref p) H')/\∀e v H',Hr rows i sh= .error e->k9 H H' d rp (i+1) e->Q v H'
noncomputable abbrev E4:Stmt:=top 79
theorem fk:bz ["_law_state","_law_shafts","_law_words","_law_place"] ["_law_state","_law_shafts"] (Ah E4):=by w_left
theorem K9(F:cR K "_law_tied" "_law_tied" E4 f fd)(T:Txt K mg c)(cF:bF P w K mg base "_law_named" 1 ["_law_state","_law_name"] Cq)(fY:bF P w K mg base "_law_rising" 2 ["_law_words","_law_most"] Fx):bQ P w K mg base c6 3 f fd ["_law_state","_law_shafts"] GL:=by
 tbr_iter (F.ok fk)
 .obtain⟨d,rp,as,rows,i,sh,rfl,S,hi,hs,kQ,kE⟩:=h;have hu:=hr.cC;have dh:=hr.ig;refine⟨_,(Ac (Am 2 fk.nd (Ag cF hr.mo (Aa (pv 0) (Aa Af Ab))))
   (Ac (Aw (Ak Fq (pv 2) AV (Ap _)) (Ae (Ao (As Ab))) Aq)
   (Ac (Aw (Ak (DZ hu (K:=K)) (pv 2) (As (Aa Af Ab)) (Ap _)) (Ae (Ao (As Ab))) Aq)
   (Ac (Am 3 fk.nd (C1 (Ak (DZ hu (K:=K)) (pv 2) (As Ab) (Ap _)) Ad (Ag fY hr (Aa (pv 2) (Aa (pv 1) Ab)))))
   (Ac (Aw (Ak (DZ hu (K:=K)) (AM (BY (K:=K)) (pv 2) A5 (AJ Ad)) (As (Aa Af Ab)) (Ap _)) (Ae (Am 3 fk.nd Ad)) Aq)
   (Ac (Aw (Ak CI (pv 3) Ad (Ap _)) (Ac (Bj dh (pv 0) Af (AY (Aa (Ay dh (pv 0) Af (λ_ _=>rfl)) (Aa (Aj Av (pv 3) Ad) Ab))) rfl)
   (Ae (Ao (As Ab)))) Aq)
   (Ae (Ao (AD (Bp (K:=K) (pv 2)) (λ_ _ _ _=>AC) (λ_ _ _ _=>(Au AX rfl T.ow Ar3 (Aa (pv 0) Ab)))))))))))),?_⟩
  exists ⟨d,rp,as,rows,i,"tie",rfl,S,hi,λws H1 p e G n1 g1=>?_,λe H1 er W=>?_⟩;rotate_left
  .exists ⟨rfl,?_⟩;exists Az (λ_=>?_) (λq=>bV rfl q);w_fin;intro q hq;exact kE e _ _ (AT er) (W.same (Al hq))
  obtain⟨wl,vI,wo⟩:=NX S.ok e;exists ⟨rfl,?_⟩;exists Az (λq=>by cases q) (λ_=>?_);w_fin;row_lines H1 x2;refine Cr (as:=ws) (bs:=[("-":Str)]) (bx.of (s2 _ _ g1)) (bx.of g2) ?_;have G2:=G.same s2;exists Az (λh1=>?_) (λh1=>?_)
  .w_fin;intro q hq;exact kQ [] _ q (Ar e (bS h1)) (G2.same (Al hq)) (G2.x.free hq) upd_same
  w_fin;row_lines H2 x3;have G3:=G2.same s3;have gp3:=(s2.trans s3) _ _ g1;refine Cr (as:=ws) (bs:=[]) (bx.of gp3) (bx.of g3) ?_;w_fin;obtain⟨pl,tW⟩:∃pl:Nat,pl=if ws=[] then 1 else if BV sh 0 ws<ws.length then BV sh 0 ws+1 else 0:=⟨_,rfl⟩
  refine ifE (λv H'=>v=nV pl/\Same H3 H') ?_ (λR key=>?_);rotate_left
  .refine Az (λh2=>?_) (λh2=>?_)
   .w_fin;exact key _ _ ⟨by rw[tW,bS h2];rfl,Same.refl _⟩
   .w_fin;exact⟨p,ws,sh,rfl,gp3,wl,λz hz=>(vI z hz).le,λH4 s4=>key _ _ ⟨by rw[tW,bG h2],s4⟩⟩
  rintro v H4 ⟨rfl,s4⟩;have G4:=G3.same s4;have gp4:=s4 _ _ gp3;obtain⟨pm,rQ⟩:∃pm:Nat,pm=if ws.take 1=[("-":Str)] then 2 else pl:=⟨_,rfl⟩
  walk_at "v";refine xJ (λσ' H'=>σ'=[aS (.ref d),aS (nV sh),aS (.ref p),aS (nV pm)]/\Same H4 H') ?_ (λkey=>?_);rotate_left
  .exists Bo (bx.of gp4) ?_;rw[JB (by decide),show ((1:Int).toNat)=1 from rfl, <-Ap3];row_lines H4 x5;w_fin;row_lines H5 x6;refine Cr (as:=ws.take 1) (bs:=[("-":Str)]) (bx.of (s6 _ _ g5)) (bx.of g6) ?_;exists Az (λh2=>?_) (λh2=>?_)
   .rw[bS h2] at rQ;subst rQ;exact key _ _ ⟨rfl,s5.trans s6⟩
   .rw[bG h2] at rQ;subst rQ;exact key _ _ ⟨rfl,s5.trans s6⟩
  rintro _ H5 ⟨rfl,s5⟩;have G5:=G4.same s5;have gp5:=s5 _ _ gp4;exists Az (λh2=>?_) (λh2=>?_)
  .exists d,_,rfl,gS G5.st BQ;w_fin;rw[show ((pm:Nat):Int)+1=((pm+1:Nat):Int) by omega];intro q' hq;obtain⟨a1,a2⟩:=Ej (e:=(i+1,pm+1)) G5 hq;exists d,_,rfl,a1;w_fin;intro q3 hq3;refine kE _ _ _ (Ar e ((bG h1).trans ?_)) (a2.same (Al hq3));by_cases h3:ws.take 1=[("-":Str)]
   .rw[bS h3] at rQ;rw[bS h3,rQ]
   .rw[bG h3] at rQ;rw[bG h3,rQ,tW];by_cases h4:ws=[]
    .rw[bS (.inl h4),bS h4,h4];rfl
    .rw[bG h4] at tW ⊢;by_cases h5:BV sh 0 ws<ws.length
     .rw[bS (.inr h5),bS h5]
     .rw[bG h5] at tW;omega
  .have h3:¬ ws.take 1=[("-":Str)]:=λz=>by rw[bS z] at rQ;omega
   rw[bG h3] at rQ;have h4:ws≠[]:=λz=>by rw[bS z] at tW;omega
   rw[bG h4] at tW;have h5:¬ BV sh 0 ws<ws.length:=λz=>by rw[bS z] at tW;omega
   have el:BV sh 0 ws=ws.length:=Nat.le_antisymm Jr (AH2 h5);obtain⟨r1,r2⟩:=Er el;exists ⟨p,rfl,⟨_,bx.of gp5⟩,λD hD=>?_⟩;refine Ed (G:=λi=>(((AQ ws).getD i 0:Nat):Int)) (AH (bx.of gp5) rfl) hD (by rw[Aa0];omega) ?_ ?_
   .intro j H' R hj s kk;rw[Aa0] at hj;rw[getD_map (e:=("":Str)) hj];have en:AI (ws.getD j "")=nV ((AQ ws).getD j 0):=by
     have h:=congrArg (λl:List V=>l.getD j .bC) r2;have e1:(ws.map AI).getD j .bC=AI (ws.getD j ""):=getD_map hj;have e2:((AQ ws).map nV).getD j .bC=nV ((AQ ws).getD j 0):=getD_map (by rw[Aa0];exact hj);rw[<-e1, <-e2];exact h
    have zl:=(vI _ (L2.getD_mem (y:=("":Str)) hj)).le;w_fin;exact⟨_,_,rfl,FP en,by omega,kk H' (Same.refl _)⟩
   .intro H6 s6 g6;refine kQ (AQ ws) H6 D (Ar e ((bG h1).trans ((bG h3).trans (bG (λz=>z.elim h4 h5))))) (G5.same s6) (G5.x.free hD) ?_;rw[g6,Aa0,Ae2,show ws.length=(AQ ws).length by rw[Aa0], <-A7 (f:=nV) (d:=0) (xs:=AQ ws)];rfl
structure Pg where
 th:List Str
 ti:List (List Nat)
 td:List Str
 wa:List Str
 we:List Str
section
variable (rows:List (List Str))(sh tr:Nat)
noncomputable def J5(j:Nat)(g:Pg):Rs Pg:=
 if j=0 then fF (iR rows 2 "thread" (fN sh) 60 1) λx=> .ok { g with th:=x }
 else if j<=tr then fF (Hr rows (2+j) sh) λl=> .ok { g with ti:=g.ti++[l] }
 else if j=tr+1 then fF (iR rows (tr+3) "tread" (fP tr) 60 1) λx=> .ok { g with td:=x }
 else if j=tr+2 then fF (iR rows (tr+4) "warp" fC g.th.length g.th.length) λx=> .ok { g with wa:=x }
 else fF (iR rows (tr+5) "weft" fC g.td.length g.td.length) λx=> .ok { g with we:=x }
theorem QK{g:Pg}(h1:1<=j)(h2:j<=tr):J5 rows sh tr j g=fF (Hr rows (2+j) sh) λl=> .ok { g with ti:=g.ti++[l] }:=(bG (by omega)).trans (bS h2)
theorem SD{g:Pg}:J5 rows sh tr (tr+1) g=fF (iR rows (tr+3) "tread" (fP tr) 60 1) λx=> .ok { g with td:=x }:=(bG (by omega)).trans ((bG (by omega)).trans (bS rfl))
theorem Ry{g:Pg}:J5 rows sh tr (tr+2) g=fF (iR rows (tr+4) "warp" fC g.th.length g.th.length) λx=> .ok { g with wa:=x }:=(bG (by omega)).trans ((bG (by omega)).trans ((bG (by omega)).trans (bS rfl)))
theorem SH{g:Pg}:J5 rows sh tr (tr+3) g=fF (iR rows (tr+5) "weft" fC g.td.length g.td.length) λx=> .ok { g with we:=x }:=(bG (by omega)).trans ((bG (by omega)).trans ((bG (by omega)).trans (bG (by omega))))
noncomputable def prog:Nat->Rs Pg
 | 0=> .ok ⟨[],[],[],[],[]⟩
 | j+1=>fF (prog j) (J5 rows sh tr j)
end
section
variable {sh:Nat}
theorem Ot{k:Nat}{e:Nat×Nat}(h:prog rows sh tr k= .error e):∀d,prog rows sh tr (k+d)= .error e
 | 0=>h
 | d+1=>AT (Ot h d)
theorem Jq{α β γ:Type}(m:Rs α)(f:α->Rs β)(h:β->Rs γ):fF (fF m f) h=fF m λa=>fF (f a) h:=by cases m <;> rfl
theorem Ku:∀k,k<=tr->prog rows sh tr (k+1)=fF (iR rows 2 "thread" (fN sh) 60 1) λth=>fF (ET rows sh k) λti=> .ok ⟨th,ti,[],[],[]⟩
 | 0,_=>rfl
 | k+1,h=>by
  show fF (prog rows sh tr (k+1)) _=_;rw[Ku k (by omega),Jq];congr 1;funext th;show fF (fF (ET rows sh k) _) _=fF (fF (ET rows sh k) _) _;rw[Jq,Jq];congr 1;funext ti;show J5 rows sh tr (k+1) _=_;rw[QK _ _ _ (by omega) h,show 2+(k+1)=3+k by omega,Jq];rfl
end
noncomputable def drG(sh tr:Nat)(g:Pg):Dr:=⟨sh,tr,AQ g.th,g.ti,g.td.map λz=>AQ (A2 z),g.wa,g.we⟩
theorem Ua(rows:List (List Str)):RD rows=fF (ER rows 0 "shafts") λsh=>fF (ER rows 1 "treadles") λtr=>fF (prog rows sh tr (tr+4)) λg=>if tr+6<rows.length then .error (tr+7,0) else .ok (drG sh tr g):=by
 unfold RD;congr 1;funext sh;congr 1;funext tr;have e:prog rows sh tr (tr+4)=fF (fF (fF (prog rows sh tr (tr+1)) (J5 rows sh tr (tr+1))) (J5 rows sh tr (tr+2))) (J5 rows sh tr (tr+3)):=rfl;rw[e,Ku tr (Aa6 _)];simp only[Jq,SD,Ry,SH];rfl
theorem spJ{E:XK}(P:V->Hp->Prop)(h1:∀v H',P v H'->Q v H')(h2:∀R:VK,(∀v H',P v H'->R v H')->sp vs H R E):sp vs H Q E:=h2 Q h1
noncomputable def qu(H:Hp)(d rp:Addr)(e:Nat×Nat):Prop:=∃i q,H d=aS (.dK (ki rp i (.ref q)))/\H q=aS (.tup [nV e.1,nV e.2])
theorem k9.s{e:Nat×Nat}(w:k9 H H' d rp i e):qu H' d rp e:=let ⟨_,q,h1,_,h3⟩:=w;⟨i,q,h1,h3⟩
theorem qu.same{e:Nat×Nat}(w:qu H d rp e)(s:Same H H'):qu H' d rp e:=let ⟨i,q,h1,h3⟩:=w;⟨i,q,s _ _ h1,s _ _ h3⟩
theorem qu.upd{e:Nat×Nat}(w:qu H d rp e)(h:H p=aS (.lst xs)):qu (upd H p (.lst ys)) d rp e:=by
 obtain⟨i,q,h1,h3⟩:=w;exact⟨i,q,(An (λz=>by rw[z,h] at h1;cases h1)).trans h1,(An (λz=>by rw[z,h] at h3;cases h3)).trans h3⟩
theorem jJ.same{w:V}(h:jJ H d rp as rows i w)(s:Same H H'):jJ H' d rp as rows i w:=⟨s _ _ h.st,h.jY.same s,h.ok,h.ln⟩
noncomputable def nQ(H:Hp)(P L a:Addr)(xs:List V):Prop:=H a=aS (.lst xs)/\a≠P/\a≠L
noncomputable def nR(H:Hp)(P L:Addr):List Addr->List (List Nat)->Prop
 | [],[]=>True
 | a::as,l::ls=>(nQ H P L a (l.map nV)/\l.length<=16)/\nR H P L as ls
 | _,_=>False
noncomputable def lg(H:Hp)(P L p0 p2 p3 p4:Addr)(as:List Addr)(g:Pg):Prop:=H P=aS (.lst [.ref p0, .ref L, .ref p2, .ref p3, .ref p4])/\L≠P/\H L=aS (.lst (as.map V.ref))/\nQ H P L p0 (g.th.map V.str)/\nQ H P L p2 (g.td.map V.str)/\nQ H P L p3 (g.wa.map V.str)/\nQ H P L p4 (g.we.map V.str)/\nR H P L as g.ti
section
variable {P:Addr}
noncomputable def M8(P L:Addr)(H H':Hp):Prop:=∀a xs,a≠P->a≠L->H a=aS (.lst xs)->H' a=aS (.lst xs)
theorem nQ.on(h:nQ H P L a xs)(k:M8 P L H H'):nQ H' P L a xs:=⟨k _ _ h.2.1 h.2.2 h.1,h.2⟩
theorem nR.on(k:M8 P L H H'):∀{as:List Addr} {ls:List (List Nat)},nR H P L as ls->nR H' P L as ls
 | [],[],_=>trivial
 | _::_,_::_,h=>⟨⟨h.1.1.on k,h.1.2⟩,nR.on k h.2⟩
theorem nR.snoc{l:List Nat}(h:nQ H P L a (l.map nV)/\l.length<=16):∀{as:List Addr} {ls:List (List Nat)},nR H P L as ls->nR H P L (as++[a]) (ls++[l])
 | [],[],_=>⟨h,trivial⟩
 | _::_,_::_,k=>⟨k.1,nR.snoc h k.2⟩
theorem nR.len:∀{as:List Addr} {ls:List (List Nat)},nR H P L as ls->as.length=ls.length
 | [],[],_=>rfl
 | _::_,_::_,k=>by rw[Aa9,Aa9,nR.len k.2]
theorem nR.rp(f:∀a,F a):∀{as:List Addr} {ls:List (List Nat)},nR H P L as ls->∀(i:Nat) (v:V) (d:Dt),(as.map V.ref)[i]?=aS v->(ls.map dL)[i]?=aS d->Rp H F 1 v d
 | [],[],_,i,v,d,h,_=>by simp at h
 | a::as,l::ls,k,0,v,d,h1,h2=>by
  cases h1;cases h2;exact JK k.1.1.1 (f a) (by have:=k.1.2;omega)
 | a::as,l::ls,k,i+1,v,d,h1,h2=>nR.rp f k.2 i v d (by simpa using h1) (by simpa using h2)
theorem lg.on{g:Pg}(h:lg H P L p0 p2 p3 p4 as g)(k:∀a xs,H a=aS (.lst xs)->H' a=aS (.lst xs)):lg H' P L p0 p2 p3 p4 as g:=by
 obtain⟨h1,h2,h3,h4,h5,h6,h7,h8⟩:=h;have kl:M8 P L H H':=λa xs _ _ e=>k a xs e;exact⟨k _ _ h1,h2,k _ _ h3,h4.on kl,h5.on kl,h6.on kl,h7.on kl,h8.on kl⟩
theorem DV:M8 P L H (upd H P (.lst ys)):=λa xs n _ e=>(An n).trans e
theorem Q9:M8 P L H (upd H L (.lst ys)):=λa xs _ n e=>(An n).trans e
end
theorem DO(h:H a=aV)(e:H b=aS o):a≠b:=λz=>by rw[z,e] at h;cases h
section
variable {P p0 p2 p3 p4 p:Addr}{g:Pg}{x:List Str}
theorem lg.aaD(h:lg H P L p0 p2 p3 p4 as g)(n:nQ H P L p (x.map V.str)):lg (upd H P (.lst ([.ref p0, .ref L, .ref p2, .ref p3, .ref p4].set 0 (.ref p)))) P L p p2 p3 p4 as { g with th:=x }:=by
 obtain⟨_,h2,h3,h4,h5,h6,h7,h8⟩:=h;exact⟨upd_same,h2,(An h2).trans h3,n.on DV,h5.on DV,h6.on DV,h7.on DV,h8.on DV⟩
theorem lg.aaE(h:lg H P L p0 p2 p3 p4 as g)(n:nQ H P L p (x.map V.str)):lg (upd H P (.lst ([.ref p0, .ref L, .ref p2, .ref p3, .ref p4].set 2 (.ref p)))) P L p0 p p3 p4 as { g with td:=x }:=by
 obtain⟨_,h2,h3,h4,h5,h6,h7,h8⟩:=h;exact⟨upd_same,h2,(An h2).trans h3,h4.on DV,n.on DV,h6.on DV,h7.on DV,h8.on DV⟩
theorem lg.aaF(h:lg H P L p0 p2 p3 p4 as g)(n:nQ H P L p (x.map V.str)):lg (upd H P (.lst ([.ref p0, .ref L, .ref p2, .ref p3, .ref p4].set 3 (.ref p)))) P L p0 p2 p p4 as { g with wa:=x }:=by
 obtain⟨_,h2,h3,h4,h5,h6,h7,h8⟩:=h;exact⟨upd_same,h2,(An h2).trans h3,h4.on DV,h5.on DV,n.on DV,h7.on DV,h8.on DV⟩
theorem lg.aaG(h:lg H P L p0 p2 p3 p4 as g)(n:nQ H P L p (x.map V.str)):lg (upd H P (.lst ([.ref p0, .ref L, .ref p2, .ref p3, .ref p4].set 4 (.ref p)))) P L p0 p2 p3 p as { g with we:=x }:=by
 obtain⟨_,h2,h3,h4,h5,h6,h7,h8⟩:=h;exact⟨upd_same,h2,(An h2).trans h3,h4.on DV,h5.on DV,h6.on DV,n.on DV,h8.on DV⟩
theorem lg.app{l:List Nat}(h:lg H P L p0 p2 p3 p4 as g)(n:nQ H P L p (l.map nV)/\l.length<=16):lg (upd H L (.lst (as.map V.ref++[.ref p]))) P L p0 p2 p3 p4 (as++[p]) { g with ti:=g.ti++[l] }:=by
 obtain⟨h1,h2,h3,h4,h5,h6,h7,h8⟩:=h;exact⟨(An (Ak9 h2)).trans h1,h2,by rw[upd_same,Ac2];rfl,h4.on Q9,h5.on Q9,h6.on Q9,h7.on Q9,(h8.snoc n).on Q9⟩
end
theorem RU(h:sh<=16):Eb ((Ab7 (sh+1)).map tN)=fN sh:=by
 funext z;show rF (.str z) (((Ab7 (sh+1)).map tN).map V.str)=_;rw[FM,Ad5,gi];constructor
 .intro q;obtain⟨k,hk,rfl⟩:=Ac4.mp q;have hk:=Ae4.mp hk;unfold fN;rw[IL (by omega)];show (decide ((0:Int)<=(k:Nat))&&decide (((k:Nat):Int)<=(sh:Nat)))=true;rw[iT (by omega),iT (by omega)];rfl
 .intro q;obtain⟨e1,e2,e3⟩:=CQ q;rw[HG e1 (by omega)];exact Ac4.mpr ⟨_,Ae4.mpr (by omega),rfl⟩
theorem HW:Eb eZ=fC:=by
 funext z;exact FM z eZ
theorem IV:((Ai9 "abcdefghijklmnopqrstuvwxyz").cps.toList.map λc=>V.str ⟨#[c]⟩)=eZ.map V.str:=by
 have e:(Ai9 "abcdefghijklmnopqrstuvwxyz").cps.toList=(Ab7 26).map (97+ ·):=by decide +kernel
 rw[e];unfold eZ;rw[Ae2,Ae2];rfl
theorem WL(hm:m<=16)(h:fP m z=true):∃ns,CW 0 m ns/\z=BW ns:=by
 rw[<-Ky hm] at h;have h:rF (.str z) ((picks m).map V.str)=true:=h;rw[FM,gi] at h;rcases Aa7.mp h with rfl | h
 .exact⟨[],trivial,rfl⟩
 .obtain⟨k,hk,rfl⟩:=Ac4.mp h;have hk:=Ae4.mp hk;exact⟨_,Hj (k+1) m,by unfold BW;rw[bG (Ow (by omega))]⟩
theorem Tv(h:∀n∈ns,n<=16):AQ (ns.map tN)=ns:=by
 unfold AQ;rw[Ae2];refine(Av7 λn hn=>?_).trans (List.map_id ns);show nO (AI (tN n))=n;rw[IL (h n hn)];rfl
theorem PP(two:(ws=[("-":Str)]/\ns=[])\/ws=ns.map tN)(nN:∀n∈ns,n<=16):(((Ab7 ws.length).filter λi=> !decide (ws.getD i ""="-")).map λi=>((nO (AI (ws.getD i "")):Nat):Int)).map V.int=ns.map nV:=by
 rcases two with ⟨rfl,rfl⟩ | rfl
 .rw[Az6.mpr λi hi=>?_]
  .rfl
  .have hi:i<1:=Ae4.mp hi;obtain rfl:i=0:=by omega
   decide +kernel
 .rw[List.filter_eq_self.mpr λi hi=>?_,Ae2]
  .refine(A7 (f:=λz=>nV (nO (AI z)))).trans ?_;rw[Ae2];exact Av7 λn hn=>by show nV (nO (AI (tN n)))=_;rw[IL (nN n hn)];rfl
  .obtain⟨n,hn,en⟩:=Ac4.mp (L2.getD_mem (y:=("":Str)) (Ae4.mp hi));rw[<-en,lI]
   .rfl
   .intro z;have:=(Hy n (AG5 (nN n hn))).2.1 45 (by rw[z];decide +kernel);omega
noncomputable def one(p:Addr)(o:HO):Hp:=upd (λ_=>aV) p o
theorem QH(h:H p=aS o):Same (one p o) H:=λb o' e=>by
 by_cases hb:b=p
 .subst hb;have e:upd (λ_=>aV) b o b=aS o':=e;rw[upd_same] at e;cases e;exact h
 .have e:upd (λ_=>aV) p o b=aS o':=e;rw[An hb] at e;cases e
noncomputable def Gu(tr:Nat):List Str:=("thread":Str)::(Ad1 tr ("tie":Str)++[("tread":Str),("warp":Str),("weft":Str)])
theorem SU:(Gu tr).map V.str=[V.str "thread"]++(Ad1 tr [V.str "tie"]).flatten++[V.str "tread",V.str "warp",V.str "weft"]:=by
 have e:(Ad1 tr [V.str "tie"]).flatten=Ad1 tr (V.str "tie"):=by
  induction tr with
  | zero=>rfl
  | succ n ih=>rw[Af9,Af9,Ap4,ih];rfl
 rw[e];unfold Gu;rw[Ac3,Ac2,Ax0];rfl
theorem Mu:(Gu tr).length=tr+4:=by
 unfold Gu;simp
theorem ZV:((Gu tr).map V.str).getD 0 .bC= .str "thread":=rfl
theorem Wp(h1:1<=i)(h2:i<=tr):((Gu tr).map V.str).getD i .bC= .str "tie":=by
 obtain⟨j,rfl⟩:∃j,i=j+1:=⟨i - 1,by omega⟩;unfold Gu;rw[Ac3,List.getD_cons_succ,Ac2,Ax0,Aa2,Ad9 (by rw[Ah8];omega),List.getElem?_replicate,bS (by omega)];rfl
theorem V3:((Gu tr).map V.str).getD (tr+1+k) .bC=[V.str "tread",V.str "warp",V.str "weft"].getD k .bC:=by
 unfold Gu;rw[Ac3,show tr+1+k=tr+k+1 by omega,List.getD_cons_succ,Ac2,Ax0,Aa2,Ae3 (by rw[Ah8];omega),Ah8,show tr+k - tr=k by omega];rfl
noncomputable def EL(K:aU):Sp:=λvs H Q _=>∃(rp:Addr) (as:List Addr) (rows:List (List Str)),vs=[.ref rp]/\dI H rp as rows/\(∀r∈rows,nq r)/\rows.length<=900/\
 (∀d H' x,RD rows= .ok d->Same H H'->Rp H' FT 3 (.ref x) (wI d)->Q (.ref x) H')/\∀e H' q,RD rows= .error e->Same H H'->H' q=aS (.tup [nV e.1,nV e.2])->Q (.ref q) H'
noncomputable abbrev PgS(rows:List (List Str))(sh tr:Nat)(d rp p9 p5:Addr)(H':Hp)(i:Nat):Prop:=(ER rows 0 "shafts"= .ok sh/\ER rows 1 "treadles"= .ok tr/\H' d=aS (.dK (ki rp (2+i) .bC))/\∃g p0 p2 p3 p4 qf,prog rows sh tr i= .ok g/\lg H' p9 p5 p0 p2 p3 p4 qf g/\qf.length<=i/\(g.th.length<=60/\∀z∈g.th,fN sh z=true)/\(g.td.length<=60/\∀z∈g.td,fP tr z=true)/\g.wa.length<=60/\g.we.length<=60)\/∃e,RD rows= .error e/\qu H' d rp e
noncomputable abbrev RdI(H:Hp)(rows:List (List Str))(sh tr:Nat)(d rp p9 p5 p15:Addr)(i:Nat)(σ:L2.St)(H':Hp):Prop:=∃x7 x8 x9 x10,σ=[aS (.ref rp),aS (.ref d),aS (nV sh),aS (nV tr),aS (.ref p9),aS (.ref p15),aS (.str "abcdefghijklmnopqrstuvwxyz"),x7,x8,x9,x10,aV]/\Same H H'/\H' p15=aS (.lst ((Gu tr).map V.str))/\PgS rows sh tr d rp p9 p5 H' i
noncomputable abbrev Fp:Stmt:=top 80
theorem bU:bz ["_law_rows_here","_law_state","_law_shafts","_law_treadles","_law_parts","_law_steps","_law_letters","_law_step","_law_goods","_law_which","_law_many","_law_picks_here"] ["_law_rows_here"] (Ah Fp):=by w_left
theorem L7(F:cR K "_law_read" "_law_read" Fp f fd)(T:Txt K mg c)(dO:bF P w K mg base "_law_counted" 2 ["_law_state","_law_name"] CF)(c9:bF P w K mg base "_law_itemed" 132 ["_law_state","_law_name","_law_most","_law_goods","_law_least"] Fw)(iK:bF P w K mg base "_law_tied" 3 ["_law_state","_law_shafts"] GL)(gH:bF P w K mg base "_law_picks" 2 ["_law_most"] F6):bQ P w K mg base c6 133 f fd ["_law_rows_here"] (EL K):=by
 tbr_iter (F.ok bU)
 .obtain⟨rp,as,rows,rfl,R,ok,ln,kQ,kE⟩:=h;have hu:=hr.cC;have dh:=hr.ig;refine⟨_,(Ac (Am 1 bU.nd (OV (C6 Af (pv 0) (C6 Af Ad (C6 Af AV OC))) rfl rfl (by simp) (by decide)))
   (Ac (Am 2 bU.nd (Ag dO hr.mo (Aa (pv 1) (Aa Af Ab))))
   (Ac (Am 3 bU.nd Ad)
   (Ac (Aw (Ak Fq (Ay dh (pv 1) Af (λ_ _=>rfl)) AV (Ap _)) (Ae (Am 3 bU.nd (Ag dO hr.mo (Aa (pv 1) (Aa Af Ab))))) Aq)
   (Ac (Am 4 bU.nd (As (Aa (As Ab) (Aa (As Ab) (Aa (As Ab) (Aa (As Ab) (Aa (As Ab) Ab)))))))
   (Ac (Am 5 bU.nd (Aj (Bs (K:=K)) (Aj (Bs (K:=K)) (As (Aa Af Ab)) (Aj Hg (As (Aa Af Ab)) (pv 3))) (As (Aa Af (Aa Af (Aa Af Ab))))))
   (Ac (Am 6 bU.nd Af)
   (Ac (EK Al5 rfl (Bp (K:=K) (pv 5)) (BB (i:=7) bU.nd rfl (Ao0 rfl)) (Ac (Aw (Ak GI (Ay dh (pv 1) Af (λ_ _=>rfl)) AV (Ap _)) (Ae (Ao (Ay dh (pv 1) Af (λ_ _=>rfl)))) Aq)
   (Ae (Aw (Ak Bb (pv 7) Af (Ap _)) (Ae (AL (Bl (K:=K) Aj0 Aj6 Aj7 A0 (AS (Bt (K:=K)) (pv 4) Ad (λ_ _=>rfl)) (Aa (Ag iK hr.mo (Aa (pv 1) (Aa (pv 2) Ab))) Ab)))) (Ae (Aw (Ak Bb (pv 7) Af (Ap _)) (Ac (C0 (i:=8) bU.nd rfl (Ao0 rfl) (DS rfl T.ow (Aa (Aj Av (pv 2) Ad) Ab)) (λ_ _ _ _=>AC) (λ_ _ _ _=>(Au HJ rfl T.ow As6 (Aa (pv 0) Ab))))
   (Ae (LX (Ag c9 hr (Aa (pv 1) (Aa (pv 7) (Aa Ad (Aa (pv 8) (Aa Ad Ab)))))) (Oe (pv 4) Ad Jv)))) (Ae (Aw (Ak Bb (pv 7) Af (Ap _)) (Ac (Am 8 bU.nd (Ag gH hr.mo (Aa (pv 3) Ab)))
   (Ae (LX (Ag c9 hr (Aa (pv 1) (Aa (pv 7) (Aa Ad (Aa (pv 8) (Aa Ad Ab)))))) (Oe (pv 4) Ad Jv)))) (Ac (Am 9 bU.nd (Aj Av Ad (Au NF rfl T.ow Ar3 (Aa (Bw Bb (pv 7) Af (Ap _)) Ab))))
   (Ac (Am 10 bU.nd (Ai (AF (K:=K)) rfl T.ow Aj3 (Aa (AS (Bt (K:=K)) (pv 4) (Aj FE (Aj Ep Ad (pv 9)) Ad) (λ_ _=>rfl)) Ab)))
   (Ae (LX (Ag c9 hr (Aa (pv 1) (Aa (pv 7) (Aa (pv 10) (Aa (Au (Tz rfl) rfl T.ow AR (Aa (pv 6) Ab)) (Aa (pv 10) Ab)))))) (Oe (pv 4) (pv 9) Jv)))))))))))))
   (Ac (Aw (PW.pt (Fl (Ak Fq (Ay dh (pv 1) Af (λ_ _=>rfl)) AV (Ap _)) (En (Ak Ic (Ay dh (pv 1) Af (λ_ _=>rfl)) (Ai (AF (K:=K)) rfl T.ow Aj3 (Aa (pv 0) Ab)) (Ap _))))) (Ae (Ao (AY (Aa (Aj Av (Ay dh (pv 1) Af (λ_ _=>rfl)) Ad) (Aa Ad Ab))))) Aq)
   (Ac (Aw (Ak GI (Ay dh (pv 1) Af (λ_ _=>rfl)) AV (Ap _)) (Ae (Ao (Ay dh (pv 1) Af (λ_ _=>rfl)))) Aq)
   (Ac (C0 (i:=11) bU.nd rfl (Ao0 rfl) (Bp (K:=K) (AS (Bt (K:=K)) (pv 4) Ad (λ_ _=>rfl))) (λ_ _ _ _=>AC) (λ_ _ _ _=>(Ph (fr:=[]) (Bp (K:=K) (Bl (K:=K) Aj5 Al2 An1 FU (pv 0) (Aa Af Ab))) (λ_ _ _ _=>(GR (Ak JH (pv 0) Af (Ap _)))) (λ_ _ _ _=>(Au AX rfl T.ow Ar3 (Aa (pv 0) Ab))))))
   (Ae (Ao (AY (Aa (pv 2) (Aa (pv 3) (Aa (AD (Bp (K:=K) (AS (Bt (K:=K)) (pv 4) Ad (λ_ _=>rfl))) (λ_ _ _ _=>AC) (λ_ _ _ _=>(Au AX rfl T.ow Ar3 (Aa (pv 0) Ab)))) (Aa (AS (Bt (K:=K)) (pv 4) Ad (λ_ _=>rfl)) (Aa (pv 11) (Aa (AS (Bt (K:=K)) (pv 4) Ad (λ_ _=>rfl)) (Aa (AS (Bt (K:=K)) (pv 4) Ad (λ_ _=>rfl)) Ab))))))))))))))))))))),?_⟩
  have RDe:=Ua rows;w_fin;intro d qt;exists ⟨upd_same,ki rp 0 .bC,rfl,by show 3<=15;decide,?_⟩;have s1:Same H (upd (upd H d (.dK [])) d (.dK (ki rp 0 .bC))):=AG (Al qt) qt;have jH:upd (upd H d (.dK [])) d (.dK (ki rp 0 .bC)) d=_:=upd_same;change AN 1 _ _ (upd (upd H d (.dK [])) d (.dK (ki rp 0 .bC))) _;generalize upd (upd H d (.dK [])) d (.dK (ki rp 0 .bC))=H1 at s1 jH ⊢;have S1:jJ H1 d rp as rows 0 .bC:=⟨jH,R.same s1,ok,ln⟩;exists spJ (sp:=CF) (λv H2=>∃n:Nat,n<=16/\v=nV n/\Same H H2/\((ER rows 0 "shafts"= .ok n/\jJ H2 d rp as rows 1 .bC)\/∃e,RD rows= .error e/\qu H2 d rp e)) ?_ (λR' key=>?_);rotate_left
  .exact⟨d,rp,as,rows,0,"shafts",rfl,S1,by decide,λn H2 e n1 n2 G=>key _ _ ⟨n,n2,rfl,Ds qt s1 G.x, .inl ⟨e,S1.on G.x G.st⟩⟩,λe n H2 er n2 W=>key _ _ ⟨n,n2,rfl,Ds qt s1 W.x, .inr ⟨e,AT er,W.s⟩⟩⟩
  rintro v H2 ⟨sh,wQ,rfl,s2,h2⟩;walk_at "v";walk_at "v";refine xJ (λσ' H'=>∃tr:Nat,tr<=16/\σ'=[aS (.ref rp),aS (.ref d),aS (nV sh),aS (nV tr),aV,aV,aV,aV,aV,aV,aV,aV]/\Same H H'/\((ER rows 0 "shafts"= .ok sh/\ER rows 1 "treadles"= .ok tr/\jJ H' d rp as rows 2 .bC)\/∃e,RD rows= .error e/\qu H' d rp e)) ?_ (λkey=>?_);rotate_left
  .w_fin;rcases h2 with ⟨e1,S2⟩ | ⟨e,er,W⟩
   .refine⟨d,_,rfl,gS S2.st BK,?_⟩;exists ⟨rfl,?_⟩;exists Az (λ_=>?_) (λq=>bV rfl q);w_fin;exact⟨d,rp,as,rows,1,"treadles",rfl,S2,by decide,λn H3 e n1 n2 G=>key _ _ ⟨n,n2,rfl,Ds qt s2 G.x, .inl ⟨e1,e,S2.on G.x G.st⟩⟩,λe n H3 er n2 W=>key _ _ ⟨n,n2,rfl,Ds qt s2 W.x, .inr ⟨e,Ar e1 (AT er),W.s⟩⟩⟩
   .obtain⟨i,q,g1,g2⟩:=W;refine⟨d,_,rfl,gS g1 BK,?_⟩;exists ⟨rfl,?_⟩;exists Az (λq=>by cases q) (λ_=>?_);exact key _ _ ⟨0,by decide,rfl,s2, .inr ⟨e,er,i,q,g1,g2⟩⟩
  rintro _ H3 ⟨tr,tr2,rfl,s3,h3⟩;w_fin;row_lines H3 x4;w_fin;row_lines H4 x5;w_fin;row_lines H5 x6;w_fin;row_lines H6 x7;w_fin;row_lines H7 x8;w_fin;row_lines H8 x9;w_fin;row_lines H9 x10;w_fin;row_lines H10 x11;exists Hv (k:=((tr:Nat):Int)) g11 (by omega) (by omega) (by decide) ?_;row_lines H11 x12;rw[show ((tr:Nat):Int).toNat=tr by omega] at g12;refine Dh (bx.of ((s11.trans s12) _ _ g10)) (bx.of g12) (by simp;omega) ?_;row_lines H12 x13;w_fin;row_lines H13 x14;refine Dh (bx.of (s14 _ _ g13)) (bx.of g14) (by simp;omega) ?_;row_lines H14 x15;have g15:H15 p15=aS (.lst ((Gu tr).map V.str)):=by
   rw[g15,SU]
  w_fin;have sH:Same H H15:=s3.trans (s4.trans (s5.trans (s6.trans (s7.trans (s8.trans (s9.trans (s10.trans (s11.trans (s12.trans (s13.trans (s14.trans s15)))))))))));have sP:Same H9 H15:=s10.trans (s11.trans (s12.trans (s13.trans (s14.trans s15))));have nP:H p9=none:=(s3.trans (s4.trans (s5.trans (s6.trans (s7.trans s8))))).free n9;have nL:H p5=none:=(s3.trans s4).free n5;have g49:=(s5.trans (s6.trans (s7.trans (s8.trans s9)))) _ _ g4;have g59:=(s6.trans (s7.trans (s8.trans s9))) _ _ g5;have g69:=(s7.trans (s8.trans s9)) _ _ g6;have g79:=(s8.trans s9) _ _ g7;have g89:=s9 _ _ g8;have LP:p5≠p9:=λz=>DO n9 ((s6.trans (s7.trans s8)) _ _ g5) z.symm;have LT:∀{a:Addr},H8 a=aS (.lst [])->a≠p5->nQ H15 p9 p5 a ([]:List V):=λ{a} e n=>⟨sP _ _ (s9 _ _ e),(DO n9 e).symm,n⟩;have PG:lg H15 p9 p5 p4 p6 p7 p8 [] ⟨[],[],[],[],[]⟩:=⟨sP _ _ g9,LP,sP _ _ g59,LT ((s5.trans (s6.trans (s7.trans s8))) _ _ g4) (DO n5 g4).symm,LT ((s7.trans s8) _ _ g6) (DO n6 g5),LT (s8 _ _ g7) (DO n7 (s6 _ _ g5)),LT g8 (DO n8 ((s6.trans s7) _ _ g5)),trivial⟩;have tX:p15≠p9:=DO n15 ((s10.trans (s11.trans (s12.trans (s13.trans s14)))) _ _ g9);have nSL:p15≠p5:=DO n15 ((s10.trans (s11.trans (s12.trans (s13.trans s14)))) _ _ g59);have h15:(ER rows 0 "shafts"= .ok sh/\ER rows 1 "treadles"= .ok tr/\H15 d=aS (.dK (ki rp 2 .bC)))\/∃e,RD rows= .error e/\qu H15 d rp e:=by
   have s315:Same H3 H15:=s4.trans (s5.trans (s6.trans (s7.trans (s8.trans (s9.trans sP)))));rcases h3 with ⟨e1,e2,S⟩ | ⟨e,er,W⟩
   .exact .inl ⟨e1,e2,s315 _ _ S.st⟩
   .exact .inr ⟨e,er,W.same s315⟩
  clear h3 g4 g5 g6 g7 g8 g9 g49 g59 g69 g79 g89 LT g10 g11 g12 g13 g14 s4 s5 s6 s7 s8 s9 s10 s11 s12 s13 s14 s15 sP n4 n5 n6 n7 n8 n9 n10 n11 n12 n13 n14 n15;refine⟨p15,rfl,⟨_,bx.of g15⟩,Ea (H0:=one p15 (.lst ((Gu tr).map V.str))) (LF (bx.of (show one p15 (.lst ((Gu tr).map V.str)) p15=_ from upd_same))) (RdI H rows sh tr d rp p9 p5 p15) ⟨_,_,_,_,rfl,sH,g15,h15.imp (λ⟨a,b,c⟩=>⟨a,b,c,_,_,_,_,_,_,rfl,PG,Aa6 _,⟨Ad4 _,λz hz=>by cases hz⟩,⟨Ad4 _,λz hz=>by cases hz⟩,Ad4 _,Ad4 _⟩) id⟩ (λi σ H' h=>by obtain⟨_,_,_,_,_,_,h,_⟩:=h;exact QH h) ?_ ?_⟩
  .rintro i σ H2' H4 hi ⟨x7,x8,x9,x10,rfl,sA,gA,hA⟩ s4;have zV:=sA.trans s4;have gS4:=s4 _ _ gA;rw[Aa0,Mu] at hi;w_fin;rcases hA with ⟨e1,e2,hd,g,p0,p2,p3,p4,qf,eg,pg,al,rR,sO,n60⟩ | ⟨e,er,j,q,w1,w2⟩;rotate_left
   .refine⟨d,_,rfl,gS (s4 _ _ w1) BK,?_⟩;exists ⟨rfl,?_⟩;exists FX (λ_=>?_) (λq=>by cases q);exists d,_,rfl,gS (s4 _ _ w1) BK;exact kE e H4 q er zV (s4 _ _ w2)
   have mh:=s4 _ _ hd;have qv:=pg.on (H':=H4) λa xs e=>s4 _ _ e;have S4:jJ H4 d rp as rows (2+i) .bC:=⟨mh,R.same zV,ok,ln⟩;refine⟨d,_,rfl,gS mh BK,?_⟩;exists ⟨rfl,?_⟩;exists FX (λq=>bV rfl q) (λ_=>?_);have rz:∀{e},J5 rows sh tr i g= .error e->RD rows= .error e:=λ{e} h=>by
    have h1:prog rows sh tr (i+1)= .error e:=Ar eg h;have h2:=Ot h1 (tr+4 - (i+1));rw[show i+1+(tr+4 - (i+1))=tr+4 by omega] at h2;rw[RDe];exact Ar e1 (Ar e2 (AT h2))
   have dP:d≠p9:=λz=>by have:=qv.1;rw[<-z,mh] at this;cases this
   have dL:d≠p5:=λz=>by have:=qv.2.2.1;rw[<-z,mh] at this;cases this
   have yK:∀{tY H5:Hp} {p:Addr} {xs:List V},Same H4 tY->kj tY H5 d rp (2+i+1)->tY p=aV->H5 p=aS (.lst xs)->Same H H5/\H5 p15=aS (.lst ((Gu tr).map V.str))/\lg H5 p9 p5 p0 p2 p3 p4 qf g/\nQ H5 p9 p5 p xs/\H5 d=aS (.dK (ki rp (2+(i+1)) .bC)):=λ{tY H5 p xs} s' G n' g'=>by
    have ua:=s' _ _ mh;refine⟨Ds qt (zV.trans s') G.x,G.lst ua (s' _ _ gS4),qv.on λa ys e=>G.lst ua (s' _ _ e),⟨g',DO n' (s' _ _ qv.1),DO n' (s' _ _ qv.2.2.1)⟩,G.st⟩
   have yL:∀{tY H5:Hp} {e:Nat×Nat},Same H4 tY->k9 tY H5 d rp (2+i+1) e->Same H H5/\H5 p15=aS (.lst ((Gu tr).map V.str))/\lg H5 p9 p5 p0 p2 p3 p4 qf g/\qu H5 d rp e:=λ{tY H5 e} s' W=>by
    have ua:=s' _ _ mh;have kp:∀a ys,H4 a=aS (.lst ys)->H5 a=aS (.lst ys):=λa ys e=>W.x.st _ _ (s' _ _ e) (λz=>by rw[z,mh] at e;cases e);exact⟨Ds qt (zV.trans s') W.x,kp _ _ gS4,qv.on kp,W.s⟩
   w_fin;by_cases hi0:i=0
   .subst hi0;rw[ZV];exists Az (λq=>bV q (by decide +kernel)) (λ_=>?_);exists Az (λ_=>?_) (λq=>bV rfl q);w_fin;rw[show ((sh:Nat):Int)+1=((sh+1:Nat):Int) by omega];refine⟨_,rfl,by omega,by omega,λD hD=>?_⟩;rw[Ad3];refine Cm (G:=λi=>tN i) (Gp rfl) hD (by omega) ?_ ?_
    .intro k H' R' hk s kk;w_fin;exact⟨_,rfl,Ft (by omega),kk H' (Same.refl _)⟩
    intro H5 s5 g5;exists ⟨d,rp,as,rows,2,"thread",60,1,D,_,fN sh,rfl,S4.same s5,by decide,g5,RU wQ,by decide,λout H6 p e G n6 g6=>?_,λe v H6 er W=>?_⟩
    .obtain⟨b1,b2,b3,b4,b5⟩:=yK s5 G n6 g6;exists Dv ?_;exists p9,_,_,0,rfl,rfl,b3.1,rfl;exact⟨_,_,_,_,rfl,AG b1 nP,(An tX).trans b2, .inl ⟨e1,e2,(An dP).trans b5,_,_,_,_,_,_,Ar eg (Ar e rfl),b3.aaD b4,by omega,(E6 e).2.2,sO,n60⟩⟩
    .obtain⟨b1,b2,b3,b4⟩:=yL s5 W;exists Dv ?_;exists p9,_,_,0,rfl,rfl,b3.1,rfl;exact⟨_,_,_,_,rfl,AG b1 nP,(An tX).trans b2, .inr ⟨e,rz (AT er),b4.upd b3.1⟩⟩
   by_cases hit:i<=tr
   .have vX:=QK rows sh tr (j:=i) (g:=g) (by omega) hit;rw[Wp (by omega) hit];exists Az (λ_=>?_) (λq=>bV rfl q);exists AU (bx.of qv.1) (AA (j:=1) (v:= .ref p5) rfl) ?_;exists mw (bx.of qv.2.2.1) ?_;exists ⟨d,rp,as,rows,2+i,sh,rfl,S4,by omega,wQ,λl H6 p e G n6 g6=>?_,λe v H6 er W=>?_⟩
    .obtain⟨b1,b2,b3,b4,b5⟩:=yK (Same.refl _) G n6 g6;exists BU b3.2.2.1 (by rw[Aa0];omega) ?_;refine⟨_,_,_,_,rfl,AG b1 nL,(An nSL).trans b2, .inl ⟨e1,e2,(An dL).trans b5,_,_,_,_,_,_,Ar eg (vX.trans (Ar e rfl)),b3.app ⟨b4,by have:=B9 (Mm e) (Ad4 _);omega⟩,by rw[Aa5];show _+1<=_;omega,rR,sO,n60⟩⟩
    .obtain⟨b1,b2,b3,b4⟩:=yL (Same.refl _) W;exists BU b3.2.2.1 (by rw[Aa0];omega) ?_;exact⟨_,_,_,_,rfl,AG b1 nL,(An nSL).trans b2, .inr ⟨e,rz (vX.trans (AT er)),b4.upd b3.2.2.1⟩⟩
   obtain⟨k,rfl⟩:∃k,i=tr+1+k:=⟨i - (tr+1),by omega⟩;rw[V3]
   match k,hi with
   | 0,hi=>
    rw[show ([V.str "tread",V.str "warp",V.str "weft"]:List V).getD 0 .bC= .str "tread" from rfl];exists Az (λq=>bV q (by decide +kernel)) (λ_=>?_);exists Az (λq=>bV q (by decide +kernel)) (λ_=>?_);exists Az (λ_=>?_) (λq=>bV rfl q);exists ⟨tr,rfl,tr2,λH5 D s5 n5 g5=>?_⟩;exists ⟨d,rp,as,rows,2+(tr+1+0),"tread",60,1,D,_,fP tr,rfl,S4.same s5,by omega,g5,Ky tr2,by decide,λout H6 p e G n6 g6=>?_,λe v H6 er W=>?_⟩
    .obtain⟨b1,b2,b3,b4,b5⟩:=yK s5 G n6 g6;exists Dv ?_;exists p9,_,_,2,rfl,rfl,b3.1,rfl;exact⟨_,_,_,_,rfl,AG b1 nP,(An tX).trans b2, .inl ⟨e1,e2,(An dP).trans b5,_,_,_,_,_,_,Ar eg ((SD ..).trans (Ar (by rw[show tr+3=2+(tr+1+0) by omega];exact e) rfl)),b3.aaE b4,by omega,rR,(E6 e).2.2,n60⟩⟩
    .obtain⟨b1,b2,b3,b4⟩:=yL s5 W;exists Dv ?_;exists p9,_,_,2,rfl,rfl,b3.1,rfl;exact⟨_,_,_,_,rfl,AG b1 nP,(An tX).trans b2, .inr ⟨e,rz ((SD ..).trans (AT (by rw[show tr+3=2+(tr+1+0) by omega];exact er))),b4.upd b3.1⟩⟩
   | 1,hi=>
    rw[show ([V.str "tread",V.str "warp",V.str "weft"]:List V).getD 1 .bC= .str "warp" from rfl];exists Az (λq=>bV q (by decide +kernel)) (λ_=>?_);exists Az (λq=>bV q (by decide +kernel)) (λ_=>?_);exists Az (λq=>bV q (by decide +kernel)) (λ_=>?_);exists _,rfl;rw[show decide (Ai9 "warp"=Ai9 "weft")=false by decide +kernel];exists AE (.inl ⟨by decide,by decide⟩) ?_;exists AU (bx.of qv.1) (v:= .ref p0) rfl ?_;exists Ax (bx.of qv.2.2.2.1.1) ?_;rw[Aa0];exists ⟨_,rfl,by decide +kernel,λD hD=>?_⟩;have s5:=Al (o:=HO.lst ((Ai9 "abcdefghijklmnopqrstuvwxyz").cps.toList.map λc=>V.str ⟨#[c]⟩)) hD;have g5:upd H4 D (HO.lst ((Ai9 "abcdefghijklmnopqrstuvwxyz").cps.toList.map λc=>V.str ⟨#[c]⟩)) D=aS (.lst (eZ.map V.str)):=upd_same.trans (by rw[IV]);generalize upd H4 D _=H5 at s5 g5 ⊢;exists ⟨d,rp,as,rows,2+(tr+1+1),"warp",g.th.length,g.th.length,D,_,fC,rfl,S4.same s5,by omega,g5,HW,rR.1,λout H6 p e G n6 g6=>?_,λe v H6 er W=>?_⟩
    .obtain⟨b1,b2,b3,b4,b5⟩:=yK s5 G n6 g6;exists Dv ?_;exists p9,_,_,3,rfl,rfl,b3.1,rfl;exact⟨_,_,_,_,rfl,AG b1 nP,(An tX).trans b2, .inl ⟨e1,e2,(An dP).trans b5,_,_,_,_,_,_,Ar eg ((Ry ..).trans (Ar (by rw[show tr+4=2+(tr+1+1) by omega];exact e) rfl)),b3.aaF b4,by omega,rR,sO,Ab4 (E6 e).2.2.1 rR.1,n60.2⟩⟩
    .obtain⟨b1,b2,b3,b4⟩:=yL s5 W;exists Dv ?_;exists p9,_,_,3,rfl,rfl,b3.1,rfl;exact⟨_,_,_,_,rfl,AG b1 nP,(An tX).trans b2, .inr ⟨e,rz ((Ry ..).trans (AT (by rw[show tr+4=2+(tr+1+1) by omega];exact er))),b4.upd b3.1⟩⟩
   | 2,hi=>
    rw[show ([V.str "tread",V.str "warp",V.str "weft"]:List V).getD 2 .bC= .str "weft" from rfl];exists Az (λq=>bV q (by decide +kernel)) (λ_=>?_);exists Az (λq=>bV q (by decide +kernel)) (λ_=>?_);exists Az (λq=>bV q (by decide +kernel)) (λ_=>?_);exists _,rfl;rw[show decide (Ai9 "weft"=Ai9 "weft")=true by decide +kernel];exists AE (.inl ⟨by decide,by decide⟩) ?_;exists AU (bx.of qv.1) (v:= .ref p2) rfl ?_;exists Ax (bx.of qv.2.2.2.2.1.1) ?_;rw[Aa0];exists ⟨_,rfl,by decide +kernel,λD hD=>?_⟩;have s5:=Al (o:=HO.lst ((Ai9 "abcdefghijklmnopqrstuvwxyz").cps.toList.map λc=>V.str ⟨#[c]⟩)) hD;have g5:upd H4 D (HO.lst ((Ai9 "abcdefghijklmnopqrstuvwxyz").cps.toList.map λc=>V.str ⟨#[c]⟩)) D=aS (.lst (eZ.map V.str)):=upd_same.trans (by rw[IV]);generalize upd H4 D _=H5 at s5 g5 ⊢;exists ⟨d,rp,as,rows,2+(tr+1+2),"weft",g.td.length,g.td.length,D,_,fC,rfl,S4.same s5,by omega,g5,HW,sO.1,λout H6 p e G n6 g6=>?_,λe v H6 er W=>?_⟩
    .obtain⟨b1,b2,b3,b4,b5⟩:=yK s5 G n6 g6;exists Dv ?_;exists p9,_,_,4,rfl,rfl,b3.1,rfl;exact⟨_,_,_,_,rfl,AG b1 nP,(An tX).trans b2, .inl ⟨e1,e2,(An dP).trans b5,_,_,_,_,_,_,Ar eg ((SH ..).trans (Ar (by rw[show tr+5=2+(tr+1+2) by omega];exact e) rfl)),b3.aaG b4,by omega,rR,sO,n60.1,Ab4 (E6 e).2.2.1 sO.1⟩⟩
    .obtain⟨b1,b2,b3,b4⟩:=yL s5 W;exists Dv ?_;exists p9,_,_,4,rfl,rfl,b3.1,rfl;exact⟨_,_,_,_,rfl,AG b1 nP,(An tX).trans b2, .inr ⟨e,rz ((SH ..).trans (AT (by rw[show tr+5=2+(tr+1+2) by omega];exact er))),b4.upd b3.1⟩⟩
   | k+3,hi=>omega
  .rintro σ H4 ⟨x7,x8,x9,x10,rfl,sA,gA,hA⟩;rw[Aa0,Mu] at hA;w_fin;rcases hA with ⟨e1,e2,hd,g,p0,p2,p3,p4,qf,eg,pg,al,rR,sO,n60⟩ | ⟨e,er,j,q,w1,w2⟩;rotate_left
   .refine⟨d,_,rfl,gS w1 BK,?_⟩;exists ⟨rfl,?_⟩;exists Az (λq=>by cases q) (λ_=>?_);exists d,_,rfl,gS w1 BK;exists ⟨rfl,?_⟩;exists FX (λ_=>?_) (λq=>by cases q);exists d,_,rfl,gS w1 BK;exact kE e H4 q er sA w2
   have RDo:∀{x},(if tr+6<rows.length then .error (tr+7,0) else .ok (drG sh tr g))=x->RD rows=x:=λh=>by
    rw[RDe];exact Ar e1 (Ar e2 (Ar eg h))
   have lE:=R.el.len;refine⟨d,_,rfl,gS hd BK,?_⟩;exists ⟨rfl,?_⟩;exists Az (λ_=>?_) (λq=>bV rfl q);exists d,_,rfl,gS hd BQ;exists Ax (bx.of (sA _ _ R.at')) ?_;rw[Aa0,lE];exists Az (λq=>?_) (λq=>?_)
   .exists d,_,rfl,gS hd BQ;w_fin;rw[show ((2+(tr+4):Nat):Int)+1=((tr+7:Nat):Int) by omega];row_lines H4 x5;exact kE (tr+7,0) H5 p5 (RDo (bS (by omega))) (sA.trans s5) g5
   exists d,_,rfl,gS hd BK;exists ⟨rfl,?_⟩;exists FX (λq=>bV rfl q) (λ_=>?_);obtain⟨h1,LP',h3,⟨h4,_⟩,⟨h5,_⟩,⟨h6,_⟩,⟨h7,_⟩,h8⟩:=pg;exists AU (bx.of h1) (AA (j:=2) (v:= .ref p2) rfl) ?_;exists ⟨p2,rfl,⟨_,bx.of h5⟩,λD hD=>?_⟩;refine A3 (m:=1) (G:=λi=>dL (AQ (A2 (g.td.getD i "")))) (AH (bx.of h5) rfl) hD (by rw[Aa0];have:=sO.1;omega) ?_ ?_
   .intro j H' R' hj s kk;rw[Aa0] at hj;have hz:=sO.2 _ (L2.getD_mem (y:=("":Str)) hj);rw[getD_map (e:=("":Str)) hj];obtain⟨ns,rn,ez⟩:=WL tr2 hz;have pw:=(FQ rn).2;have nN:∀n∈ns,n<=16:=λn hn=>by have:=(pw n hn).2;omega
    have nl:=B9 rn (Ad4 _);have et:=Hl nN;have zl:=(LD nN (by omega)).le;rw[<-ez] at et zl;rw[et,Tv nN] at kk;generalize g.td.getD j ""=z at hz ez et zl;exists rK ?_;exists ⟨_,_,rfl,rfl,by decide,by rw[Aj9];omega,?_⟩;row_lines H' x6;have two:(Ai8 z "+"=[("-":Str)]/\ns=[])\/Ai8 z "+"=ns.map tN:=by
     by_cases hm:z="-"
     .rw[hm] at et;exact .inl ⟨by rw[hm];decide +kernel,List.map_eq_nil_iff.mp et.symm⟩
     .exact .inr (Eq.trans (Eq.symm (bG hm)) et)
    have g6:H6 p6=aS (.lst ((Ai8 z "+").map V.str)):=g6;have eL:=PP two nN;have eN:∀i,i<(Ai8 z "+").length->(!decide ((Ai8 z "+").getD i ""="-"))=true->AI ((Ai8 z "+").getD i "")=nV (nO (AI ((Ai8 z "+").getD i "")))/\((Ai8 z "+").getD i "").length<=100:=λi hi hp=>by
     rcases two with ⟨e,_⟩ | e
     .rw[e] at hi hp;have hi:i<1:=hi;obtain rfl:i=0:=by omega
      exact bV hp (by decide +kernel)
     .rw[e] at hi ⊢;obtain⟨n,hn,en⟩:=Ac4.mp (L2.getD_mem (y:=("":Str)) hi);rw[<-en,IL (nN n hn)];exact⟨rfl,Ab4 (LA n (AG5 (nN n hn))) (by decide)⟩
    have wl:(Ai8 z "+").length<=1000:=by
     rcases two with ⟨e,_⟩ | e
     .rw[e];decide
     .rw[e,Aa0];omega
    generalize Ai8 z "+"=ws at g6 two eL eN wl;exists ⟨p6,rfl,⟨_,bx.of g6⟩,λD6 tU=>?_⟩;refine Jt (p:=λi=> !decide (ws.getD i ""="-")) (G:=λi=>((nO (AI (ws.getD i "")):Nat):Int)) (AH (bx.of g6) rfl) tU (by rw[Aa0];omega) ?_ ?_ ?_
    .intro i H7 R7 hi s7 k7;rw[Aa0] at hi;rw[getD_map (e:=("":Str)) hi];w_fin;exact k7 H7 (Same.refl _)
    .intro i H7 R7 hi hp s7 k7;rw[Aa0] at hi;rw[getD_map (e:=("":Str)) hi];obtain⟨q1,q2⟩:=eN i hi hp;w_fin;exact⟨_,_,rfl,FP q1,by omega,k7 H7 (Same.refl _)⟩
    .intro H7 s7 g7;rw[Aa0,eL] at g7;exact kk H7 _ (s6.trans s7) (JK g7 (s6.free tU) (by omega))
   .intro H5 ys s5 rX r5;rw[Aa0,show ((Ab7 g.td.length).map λi=>dL (AQ (A2 (g.td.getD i ""))))=(g.td.map λz=>AQ (A2 z)).map dL by rw[Ae2];exact A7 (f:=λz=>dL (AQ (A2 z)))] at r5;exists AU (bx.of (s5 _ _ h1)) (AA (j:=0) (v:= .ref p0) rfl) ?_;exists ⟨p0,rfl,⟨_,bx.of (s5 _ _ h4)⟩,λD6 tU=>?_⟩;refine Ed (G:=λi=>((nO (AI (g.th.getD i "")):Nat):Int)) (AH (bx.of (s5 _ _ h4)) rfl) tU (by rw[Aa0];have:=rR.1;omega) ?_ ?_
    .intro j H' R' hj s kk;rw[Aa0] at hj;rw[getD_map (e:=("":Str)) hj];obtain⟨q1,q2,q3⟩:=CQ (rR.2 _ (L2.getD_mem (y:=("":Str)) hj));have q4:=LA _ (show nO (AI (g.th.getD j ""))<17 by omega);rw[<-HG q1 (by omega)] at q4;w_fin;exact⟨_,_,rfl,FP q1,by omega,kk H' (Same.refl _)⟩
    intro H6 s6 g6;rw[Aa0,Ae2,show (Ab7 g.th.length).map (V.int∘λi=>((nO (AI (g.th.getD i "")):Nat):Int))=(AQ g.th).map nV by rw[Ae2];exact A7 (f:=λz=>nV (nO (AI z)))] at g6;have s46:=s5.trans s6;exists AU (bx.of (s46 _ _ h1)) (AA (j:=1) (v:= .ref p5) rfl) ?_;exists AU (bx.of (s46 _ _ h1)) (AA (j:=3) (v:= .ref p3) rfl) ?_;exists AU (bx.of (s46 _ _ h1)) (AA (j:=4) (v:= .ref p4) rfl) ?_;w_fin;row_lines H6 x7;have s47:=s46.trans s7;refine kQ (drG sh tr g) H7 p7 (RDo (bG (by omega))) (sA.trans s47) ?_;refine K4 g7 (.int _) (.int _) (JK (s7 _ _ g6) trivial (show (AQ g.th).length<=_ by rw[Aa0];have:=rR.1;omega)) ?_ ((r5.any).same (s6.trans s7)) (QY (s47 _ _ h6) trivial (Ab4 n60.1 (by decide))) (QY (s47 _ _ h7) trivial (Ab4 n60.2 (by decide)));refine Rp.same (H:=H4) (.lst h3 trivial (by rw[Aa0];omega) ?_ (h8.rp λ_=>trivial)) s47;rw[Aa0,Aa0];exact h8.len
theorem V4(T:Txt K mg c):tR K c c.bM 0:=⟨by decide,T.jT.toExcKind,T.jU,T.jD,T.jE,T.jk,T.jm,T.jn,T.jo,T.iA,T.iB⟩
noncomputable def Et(K:aU)(c:Cs)(t1 t2:Addr):Sp:=λvs H Q _=>∃x:V,vs=[x]/\Tb t1 t2 H/\((Ty K H x/\Lv x=false/\∀H' q,dQ t1 t2 H H'->H' q=aS (.tup [nV 1,nV 0])->Q (.ref q) H')\/∃(z:Str) (rows:List (List Str)),x= .str z/\o9 z rows/\
 (∀d H' p,RD rows= .ok d->dQ t1 t2 H H'->H p=aV->Rp H' FT 3 (.ref p) (wI d)->Q (.ref p) H')/\∀e H' q,RD rows= .error e->dQ t1 t2 H H'->H' q=aS (.tup [nV e.1,nV e.2])->Q (.ref q) H')
theorem spR{E:XK}{t1 t2:Addr}(J:Nat->Nat->Prop)(h1:∀r w,J r w->kh c E t1 t2 H r w)(h2:(∀r w,J r w->kh c E t1 t2 H r w)->sp vs H Q E):sp vs H Q E:=h2 h1
noncomputable abbrev Fg:Stmt:=top 81
theorem cY:bz ["_law_text","_law_wrong","_law_told_here","e"] ["_law_text"] (Ah Fg):=by w_left
theorem Lr(F:cR K "_law_told" "_law_told" Fg f fd)(T:Txt K mg c)(gI:BJ P w K mg base "read_draft" 11 ["text"] (DG K c iD iE))(gJ:bF P w K mg base "_law_kinds" 1 ["_law_error"] (FY K c))(gK:Qy P w K mg base c.bT "told" 1 ["self"] (F2 c)):bQ P w K mg base c6 12 f fd ["_law_text"] (Et K c iD iE):=by
 tbr_iter (F.ok cY)
 .obtain⟨x,rfl,tb,h⟩:=h;have hu:=hr.cC;refine⟨_,(Ac (Am 1 cY.nd AV)
   (Ac (Am 2 cY.nd AV)
   (Ac (VT (j:=3) rfl rfl T.iz cY.nd rfl rfl (λ_ _ _ hp=>(Ae (Am 2 cY.nd (Bk gI hr hp (Aa (pv 0) Ab))))) (λ_ _=>(Ae (Am 1 cY.nd (pv 3)))))
   (Ac (Aw (Ak Fq (pv 1) AV (Ap _)) (Ae (Ao (Qa (pv 2) gK hr.mo))) Aq)
   (Ac (Aw (Ak (Rn hu (K:=K)) (Ag gJ hr.mo (Aa (pv 1) Ab)) (As (Aa Af Ab)) (Ap _)) (Ae (Ao AV)) Aq)
   (Ae (Ao (AY (Aa (OL (K:=K) (pv 1) rfl) (Aa (OL (K:=K) (pv 1) rfl) Ab)))))))))),?_⟩
  exists WG ?_;exists spR (sp:=DG K c iD iE) (c:=c) (t1:=iD) (t2:=iE) (λr w=>∀H' q,dQ iD iE H H'->H' q=aS (.tup [nV r,nV w])->Q (.ref q) H') (λr w kQ H2 dx x2 iQ=>?_) (λkey=>?_);rotate_left
  .rcases h with ⟨ty,ns,kQ⟩ | ⟨z,rows,rfl,tr,kQ,kE⟩
   .exact⟨x,rfl,tb, .inl ⟨ty,ns,key 1 0 kQ⟩⟩
   .refine⟨.str z,rfl,tb, .inr ⟨z,rows,rfl,tr,λd H2 y er ok x2 ny dr=>?_,λr w er=>key r w λH' q=>kE (r,w) H' q er⟩⟩;exists ⟨rfl,?_⟩;exists Az (λ_=>?_) (λq=>bV rfl q);w_fin;obtain⟨dx,w1,w2,w3,w4,w5,h0,_⟩:=id dr;refine⟨y,dx,_,rfl,h0,by rfl,?_⟩;exists ⟨y,d,rfl,dr,λH3 p3 s3 n3 r3=>?_⟩;exact kQ d H3 p3 er (x2.trans (dQ.of s3)) (x2.free n3) r3.any
  refine⟨_,rfl,T.iS,λa2 σ pJ lC=>?_⟩;obtain⟨y0,y1,y2,y3,rfl⟩:∃x0 x1 x2 x3,σ=[x0,x1,x2,x3]:=by
   match σ,lC with
   | [x0,x1,x2,x3],_=>exact⟨x0,x1,x2,x3,rfl⟩
  have s3:=Al (o:=Gd a2 c.bM (aS dx)) pJ;have e2:=s3 _ _ iQ;have ea:upd H2 a2 (Gd a2 c.bM (aS dx)) a2=_:=upd_same;generalize upd H2 a2 _=H3 at s3 e2 ea ⊢;exists Vs ?_;exists ⟨rfl,?_⟩;exists Az (λq=>by cases q) (λ_=>?_);exists ⟨a2,c.bM,aS dx,0,rfl,ea,V4 T,λH4 l s4 hl0 tF=>?_⟩;w_fin;intro p5 tT;have s5:=Al (o:=HO.lst [V.str "row"]) tT;refine LG (as:=["row"]) (bs:=["row"]) (bx.of (s5 _ _ tF)) (bx.of upd_same) ?_;have s45:=s4.trans s5;generalize upd H4 p5 _=H5 at s45 ⊢;have ea5:=s45 _ _ ea;have e5:=s45 _ _ e2;rw[iT rfl];exists Pe ?_;exists a2,_,dx,_,_,rfl,ea5,e5,rfl,T.jT,T.i0;exists Pe ?_;exists a2,_,dx,_,_,rfl,ea5,e5,rfl,T.jT,T.iC;w_fin;row_lines H5 x6;exact kQ H6 p6 (x2.trans (dQ.of (s3.trans (s45.trans s6)))) g6
structure GW(z:Str):Prop where
 nl:(10:Nat)∉z.cps.toList
 bl:(32:Nat)∉z.cps.toList
 le:z.length<=100
 op:C4 z=40->z∈S8
structure RB(k:Nat)(r:List Str):Prop where
 len:r.length<=181+k
 w:∀z∈r,GW z
 ops:ia r<=60+k
structure sQ(k:Nat)(rows:List (List Str)):Prop where
 lo:4<=rows.length+k
 hi:rows.length<=30+k
 r:∀r∈rows,RB k r
theorem RB.up{r r':List Str}(h:RB k r)(h1:r'.length<=r.length+1)(h2:∀z∈r',z∈r\/GW z)(h3:ia r'<=ia r+1):RB (k+1) r':=
 ⟨by have:=h.len;omega,λz hz=>(h2 z hz).elim (h.w z) id,by have:=h.ops;omega⟩
theorem sQ.up{gX:List (List Str)}(h:sQ k rows)(h1:rows.length<=gX.length+1)(h2:gX.length<=rows.length+1)(h3:∀r∈gX,r∈rows\/RB (k+1) r):sQ (k+1) gX:=
 ⟨by have:=h.lo;omega,by have:=h.hi;omega,λr hr=>(h3 r hr).elim (λq=>(h.r r q).up (Ag5 _) (λz hz=> .inl hz) (Ag5 _)) id⟩
noncomputable def nu:List Str:=["0","1","2","9","3(",")","-","1+2","2+1","a","B","tie","x","17","01","","4","weft"]
theorem Wt:∀z∈nu,(10:Nat)∉z.cps.toList/\(32:Nat)∉z.cps.toList/\z.length<=100/\(C4 z=40->z∈S8):=by decide +kernel
theorem U1(h:z∈nu):GW z:=let ⟨a,b,c,d⟩:=Wt z h;⟨a,b,c,d⟩
theorem OA(z:Str):ia [z]<=1:=AB5
theorem RS(r:List Str)(i:Nat):ia (r.take i)+ia (r.drop i)=ia r:=by rw[<-FO,List.take_append_drop]
theorem Wk(r:List Str)(i:Nat):ia (r.drop (i+1))<=ia (r.drop i):=by rw[<-AC6];exact Iz (Ax8 ..)
theorem Rm{α:Type}{r:List α}{z:α}(h:z∈r.take i++r.drop j):z∈r:=(Ad6.mp h).elim Au7 Aq6
theorem Mf{α:Type}{r m:List α}{z:α}(h:z∈r.take i++m++r.drop j):z∈r\/z∈m:=(Ad6.mp h).elim (λh=>(Ad6.mp h).elim (λh=> .inl (Au7 h)) .inr) λh=> .inl (Aq6 h)
theorem RB.cut{r:List Str}(h:RB k r)(i:Nat):RB (k+1) (r.take i++r.drop (i+1)):=h.up (by rw[Aa5,Ac5,Ad2];omega) (λz hz=> .inl (Rm hz)) (by have:=RS r i;have:=Wk r i;rw[FO];omega)
theorem RB.put{r:List Str}(h:RB k r)(i j:Nat)(hj:i<=j)(g:GW z):RB (k+1) (r.take i++[z]++r.drop j):=h.up (by rw[Aa5,Aa5,Ac5,Ad2];show _+1+_<=_;omega) (λy hy=>(Mf hy).imp_right λe=>by rw[Ac9.mp e];exact g) (by
 have:=RS r i;have:=OA z;have:ia (r.drop j)<=ia (r.drop i):=by
  obtain⟨d,rfl⟩:∃d,j=i+d:=⟨j - i,by omega⟩;rw[<-AC6];exact Iz (Ax8 ..)
 rw[FO,FO];omega)
theorem gy.take:∀{as:List Addr} {us:List (List Str)} (i:Nat),gy H as us->gy H (as.take i) (us.take i)
 | _,_,0,_=>trivial
 | [],[],_+1,_=>trivial
 | _::_,_::_,i+1,h=>⟨h.1,gy.take i h.2⟩
theorem gy.drop:∀{as:List Addr} {us:List (List Str)} (i:Nat),gy H as us->gy H (as.drop i) (us.drop i)
 | _,_,0,h=>h
 | [],[],_+1,_=>trivial
 | _::_,_::_,i+1,h=>gy.drop i h.2
theorem gy.nin{p:Addr}(n:H p=aV):∀{as:List Addr} {us:List (List Str)},gy H as us->p∉as
 | [],[],_,h=>by cases h
 | _::_,_::_,h,z=>by
  rcases Aa7.mp z with rfl | z
  .rw[h.1] at n;cases n
  .exact gy.nin n h.2 z
theorem U9:FD (as.map V.ref) aV (aS ((i:Nat):Int))=(as.take i).map V.ref:=by rw[JB (by omega),Ad3,Ap3]
theorem Wz:FD (as.map V.ref) (aS ((i:Nat):Int)) aV=(as.drop i).map V.ref:=by rw[Hc (by omega),Ad3,Ay2]
theorem US:FD (us.map V.str) (aS ((i:Nat):Int)) aV=(us.drop i).map V.str:=by rw[Hc (by omega),Ad3,Ay2]
theorem FI(n:H p=aV)(e:gy H as rows)(s:Same H H')(g:H' p=aS (.lst (as.map V.ref))):dI H' p as rows:=⟨g,e.on λa _ o q=>s a o q,e.nin n⟩
theorem P2(x:Int)(h:0<m):∃s:Nat,x%(m:Nat)=(s:Nat)/\s<m:=by
 have h1:=Af1 x (show ((m:Nat):Int)≠0 by omega);have h2:=Af5 x (show (0:Int)<((m:Nat):Int) by omega);exact⟨(x%(m:Nat)).toNat,by omega,by omega⟩
theorem Qc{xs ys:List Addr}(c:H l=aS (.lst (xs.map V.ref)))(d:H p=aS (.lst (ys.map V.ref)))(b:xs.length+ys.length<=1000)(h:∀q,H q=aV->Q (.ref q) (upd H q (.lst ((xs++ys).map V.ref)))):Nh K (.ref l) (.ref p) H Q:=Dh (bx.of c) (bx.of d) (by rw[Aa0,Aa0];omega) (by rw[<-Ac2];exact h)
noncomputable def GF:Sp:=λvs H Q _=>∃(rp:Addr) (as:List Addr) (rows:List (List Str)) (x:Int) (k:Nat),vs=[.ref rp, .int x]/\dI H rp as rows/\sQ k rows/\k<=2/\∀H' p qf gX,Same H H'->H p=aV->dI H' p qf gX->sQ (k+1) gX->Q (.ref p) H'
noncomputable abbrev Fe:Stmt:=top 72
theorem cG:bz ["_law_rows_here","_law_number_here","_law_at","_law_row","_law_spot","_law_some","_law_word","_law_way","_law_more"] ["_law_rows_here","_law_number_here"] (Ah Fe):=by w_left
theorem Lz(F:cR K "_law_bent" "_law_bent" Fe f fd)(T:Txt K mg c):bQ P w K mg base c6 1 f fd ["_law_rows_here","_law_number_here"] GF:=by
 tbr_iter (F.ok cG)
 .obtain⟨rp,as,rows,x,k,rfl,R,B,hk,kQ⟩:=h;have hu:=hr.cC;have lE:=R.el.len;have lo:=B.lo;have hi:=B.hi;refine⟨_,(Ac (Am 2 cG.nd (Aj A1 (Aj BZ (pv 1) Ad) (Ai (AF (K:=K)) rfl T.ow Aj3 (Aa (pv 0) Ab))))
   (Ac (Am 3 cG.nd (AS (Bt (K:=K)) (pv 0) (pv 2) (λ_ _=>rfl)))
   (Ac (Am 4 cG.nd (Aj A1 (Aj BZ (pv 1) Ad) (Aj Av (Ai (AF (K:=K)) rfl T.ow Aj3 (Aa (pv 3) Ab)) Ad)))
   (Ac (Am 5 cG.nd (As (Aa Af (Aa Af (Aa Af (Aa Af (Aa Af (Aa Af (Aa Af (Aa Af (Aa Af (Aa Af (Aa Af (Aa Af (Aa Af (Aa Af (Aa Af (Aa Af (Aa Af (Aa Af Ab))))))))))))))))))))
   (Ac (Am 6 cG.nd (AS (Bt (K:=K)) (pv 5) (Aj A1 (Aj BZ (pv 1) Ad) Ad) (λ_ _=>rfl)))
   (Ac (Am 7 cG.nd (Aj A1 (pv 1) Ad))
   (Ac (Aw (Ak Bb (pv 7) Ad (Ap _)) (Ae (Ao (Aj (Bs (K:=K)) (AM (BY (K:=K)) (pv 0) A5 (AJ (pv 2))) (AM (BY (K:=K)) (pv 0) (AJ (Aj Av (pv 2) Ad)) A5)))) Aq)
   (Ac (Aw (Ak Bb (pv 7) Ad (Ap _)) (Ae (Ao (Aj (Bs (K:=K)) (Aj (Bs (K:=K)) (AM (BY (K:=K)) (pv 0) A5 (AJ (pv 2))) (As (Aa (pv 3) Ab))) (AM (BY (K:=K)) (pv 0) (AJ (pv 2)) A5)))) Aq)
   (Ac (Aw (Ak Bb (pv 7) Ad (Ap _)) (Ae (Ao (Aj (Bs (K:=K)) (pv 0) (As (Aa (AM (BY (K:=K)) (AM (BY (K:=K)) (pv 5) (AJ (Aj A1 (Aj BZ (pv 1) Ad) Ad)) A5) A5 (AJ Ad)) Ab))))) Aq)
   (Ac (Am 8 cG.nd (Au (Gm (K:=K)) rfl T.ow AR (Aa (pv 3) Ab)))
   (Ac (Aw (Ak Ic (pv 7) Ad (Ap _)) (Ae (AL (Bl (K:=K) Aj0 PySem.F.slot_list_insert PySem.F.type_list_insert Pp (pv 8) (Aa (pv 4) (Aa (pv 6) Ab))))) (Ae (Aw (Ak Ic (pv 7) Ad (Ap _)) (Ae (Am 8 cG.nd (Aj (Bs (K:=K)) (AM (BY (K:=K)) (pv 3) A5 (AJ (pv 4))) (AM (BY (K:=K)) (pv 3) (AJ (Aj Av (pv 4) Ad)) A5)))) (Ae (LX (As (Aa (pv 6) Ab)) (Rw (pv 8) (AJ (pv 4)) (AJ (Aj Av (pv 4) Ad))))))))
   (Ae (Ao (Aj (Bs (K:=K)) (Aj (Bs (K:=K)) (AM (BY (K:=K)) (pv 0) A5 (AJ (pv 2))) (As (Aa (pv 8) Ab))) (AM (BY (K:=K)) (pv 0) (AJ (Aj Av (pv 2) Ad)) A5))))))))))))))),?_⟩
  exists AE ⟨by decide,by decide⟩ ?_;exists Ax (bx.of R.at') ?_;rw[Aa0,lE];refine AE (by show (0:Int)<((rows.length:Nat):Int);omega) ?_;obtain⟨at',ea,la⟩:=P2 (x / 12) (m:=rows.length) (by omega);rw[ea];have er:rows[at']?=aS (rows.getD at' []):=by rw[Aa2,Aa3 la];rfl
  obtain⟨a,ea',ga⟩:=R.el.get er;have Br:=B.r _ (Ad0 er);generalize rows.getD at' []=r at er ga Br;exists AU (bx.of R.at') (AA (by rw[Ac1,ea'];rfl)) ?_;exists AE ⟨by decide,by decide⟩ ?_;exists Ax (bx.of ga) ?_;w_fin;rw[Aa0,show ((r.length:Nat):Int)+1=((r.length+1:Nat):Int) by omega];refine AE (by show (0:Int)<((r.length+1:Nat):Int);omega) ?_;obtain⟨sp,es,ls⟩:=P2 (x / 400) (m:=r.length+1) (by omega);rw[es];have rl:=Br.len;w_fin;row_lines H x1;exists AE ⟨by decide,by decide⟩ ?_;exists AE (by decide) ?_;obtain⟨b,eb,lb⟩:=P2 (x / 20000) (m:=18) (by decide);rw[show x / 20000%18=((b:Nat):Int) from eb];have gs:H1 p1=aS (.lst (nu.map V.str)):=g1;have em:nu[b]?=aS (nu.getD b ""):=by rw[Aa2,Aa3 lb];rfl
  have gw:=U1 (Ad0 em);generalize nu.getD b ""=wd at gw em;refine AU (bx.of gs) (AA (by rw[Ac1,em];rfl)) ?_;exists AE (by decide) ?_;generalize x%12=way;have R1:=R.same s1;have zW:=s1 _ _ ga;clear g1 em;exists Az (λ_=>?_) (λ_=>?_)
  .exists Bo (bx.of R1.at') ?_;rw[U9];row_lines H1 x2;exists Bo (bx.of (s2 _ _ R1.at')) ?_;rw[show ((at':Nat):Int)+1=((at'+1:Nat):Int) by omega,Wz];row_lines H2 x3;have R3:=R1.same (s2.trans s3);refine Qc (s3 _ _ g2) g3 (by rw[Ac5,Ad2];omega) ?_;row_lines H3 x4;have s03:=s1.trans (s2.trans s3);exact kQ H4 p4 _ _ (s03.trans s4) (s03.free n4) (FI n4 ((R3.el.take at').app (R3.el.drop (at'+1))) s4 g4) (B.up (by rw[Aa5,Ac5,Ad2];omega) (by rw[Aa5,Ac5,Ad2];omega) λq hq=> .inl (Rm hq))
  exists Az (λ_=>?_) (λ_=>?_)
  .exists Bo (bx.of R1.at') ?_;rw[U9];row_lines H1 x2;w_fin;row_lines H2 x3;refine Qc (ys:=[a]) (s3 _ _ g2) g3 (by rw[Ac5];show _+1<=_;omega) ?_;row_lines H3 x4;w_fin;have s14:=s2.trans (s3.trans s4);have R4:=R1.same s14;refine Bo (bx.of R4.at') ?_;rw[Wz];row_lines H4 x5;refine Qc (s5 _ _ g4) g5 (by rw[Aa5,Ac5,Ad2];show _+1+_<=_;omega) ?_;row_lines H5 x6;have s05:=s1.trans (s14.trans s5);have R5:=R4.same s5;refine kQ H6 p6 _ (rows.take at'++[r]++rows.drop at') (s05.trans s6) (s05.free n6) (FI n6 (((R5.el.take at').app (bs:=[a]) (vs:=[r]) ⟨(s14.trans s5) _ _ zW,trivial⟩).app (R5.el.drop at')) s6 g6) (B.up (by rw[Aa5,Aa5,Ac5,Ad2];show _<=_+1+_+1;omega) (by rw[Aa5,Aa5,Ac5,Ad2];show _+1+_<=_;omega) λq hq=> .inl ((Mf hq).elim id λe=>by rw[Ac9.mp e];exact Ad0 er))
  exists Az (λ_=>?_) (λ_=>?_)
  .exists AE ⟨by decide,by decide⟩ ?_;exists AE (by decide) ?_;obtain⟨b',eb',lb'⟩:=P2 (x / 20000) (m:=16) (by decide);rw[show x / 20000%16=((b':Nat):Int) from eb'];exists Bo (bx.of gs) ?_;rw[US];row_lines H1 x2;exists Bo (bx.of g2) ?_;rw[show (2:Int)=((2:Nat):Int) from rfl,OK];row_lines H2 x3;w_fin;row_lines H3 x4;have s14:=s2.trans (s3.trans s4);have R4:=R1.same s14;refine Qc (ys:=[p3]) R4.at' g4 (by show _+1<=_;omega) ?_;row_lines H4 x5;have s04:=s1.trans s14;have l2:((nu.drop b').take 2).length<=2:=List.length_take_le ..;refine kQ H5 p5 _ (rows++[(nu.drop b').take 2]) (s04.trans s5) (s04.free n5) (FI n5 (R4.el.app (bs:=[p3]) ⟨s4 _ _ g3,trivial⟩) s5 g5) (B.up (by rw[Aa5];show _<=_+1+1;omega) (by rw[Aa5];exact Aa6 _) λq hq=>(Ad6.mp hq).imp_right λe=>?_);rw[Ac9.mp e];exact⟨by omega,λz hz=>U1 (Aq6 (Au7 hz)),Ab4 AB5 (by omega)⟩
  exists Kx (bx.of zW) ?_;row_lines H1 x2;have s02:=s1.trans s2;walk_at "v";refine xJ (λσ' H'=>∃pm more,σ'=[aS (.ref rp),aS (.int x),aS (nV at'),aS (.ref a),aS (nV sp),aS (.ref p1),aS (.str wd),aS (.int way),aS (.ref pm)]/\Same H1 H'/\H1 pm=aV/\H' pm=aS (.lst (more.map V.str))/\RB (k+1) more) ?_ (λkey=>?_)
  .rintro _ H3 ⟨pm,more,rfl,s3,nm,gm,Bm⟩;w_fin;have R3:=R1.same s3;refine Bo (bx.of R3.at') ?_;rw[U9];row_lines H3 x4;w_fin;row_lines H4 x5;refine Qc (ys:=[pm]) (s5 _ _ g4) g5 (by rw[Ac5];show _+1<=_;omega) ?_;row_lines H5 x6;w_fin;have s36:=s4.trans (s5.trans s6);have R6:=R3.same s36;refine Bo (bx.of R6.at') ?_;rw[show ((at':Nat):Int)+1=((at'+1:Nat):Int) by omega,Wz];row_lines H6 x7;refine Qc (s7 _ _ g6) g7 (by rw[Aa5,Ac5,Ad2];show _+1+_<=_;omega) ?_;row_lines H7 x8;have s07:=s1.trans (s3.trans (s36.trans s7));have R7:=R6.same s7;exact kQ H8 p8 _ (rows.take at'++[more]++rows.drop (at'+1)) (s07.trans s8) (s07.free n8) (FI n8 (((R7.el.take at').app (bs:=[pm]) (vs:=[more]) ⟨(s36.trans s7) _ _ gm,trivial⟩).app (R7.el.drop (at'+1))) s8 g8) (B.up (by rw[Aa5,Aa5,Ac5,Ad2];show _<=_+1+_+1;omega) (by rw[Aa5,Aa5,Ac5,Ad2];show _+1+_<=_;omega) λq hq=>(Mf hq).imp_right λe=>by rw[Ac9.mp e];exact Bm)
  exists Az (λ_=>?_) (λ_=>?_)
  .exists mw (bx.of g2) ?_;exists ⟨p2,_,_,_,rfl,rfl,g2,by omega,by rw[Aa0];omega,by rw[Aa0];omega,?_⟩;rw[Ad3, <-Ap3, <-Ay2];refine key _ _ ⟨p2,r.take sp++[wd]++r.drop sp,rfl,AG s2 n2,n2,?_,Br.put sp sp (Aa6 _) gw⟩;rw[upd_same];simp
  exists Az (λ_=>?_) (λ_=>?_)
  .exists Bo (bx.of (s2 _ _ zW)) ?_;rw[OK];row_lines H2 x3;exists Bo (bx.of (s3 _ _ (s2 _ _ zW))) ?_;rw[show ((sp:Nat):Int)+1=((sp+1:Nat):Int) by omega,US];row_lines H3 x4;refine Ir (s4 _ _ g3) g4 (by rw[Ac5,Ad2];omega) ?_;row_lines H4 x5;have s14:=s2.trans (s3.trans s4);exact key _ _ ⟨p5,_,rfl,s14.trans s5,s14.free n5,g5,Br.cut sp⟩
  w_fin;row_lines H2 x3;w_fin;unfold Rq;exists ⟨p2,p3,r.map V.str,[wd].map V.str,sp,sp+1,rfl,rfl,rfl,by rw[Int.natCast_add];rfl,Ag5 _,by rw[Aa0];omega,s3 _ _ g2,g3,(λz=>by rw[<-z,g2] at n3;cases n3),by rw[Aa0];show _+1<=_;omega,?_⟩;rw[<-Ap3, <-Ay2, <-Ac2, <-Ac2];exact key _ _ ⟨p2,_,rfl,AG (s2.trans s3) n2,n2,upd_same,Br.put sp (sp+1) (Ag5 _) gw⟩
theorem Um:∀z∈S8,C4 z=40:=by decide +kernel
theorem GC.gw(g:GC z):GW z/\ia [z]=0:=by
 have h:C4 z≠40:=λe=>by
  have hl:=Ae9.mpr g.ne;unfold C4 at e;rw[<-Fk,Aa2,Aa3 (by omega)] at e;have:=g.ok _ (Ah6 (l:=z.cps.toList) (n:=z.cps.toList.length - 1) (by omega));rw[show z.cps.toList[z.cps.toList.length - 1]=40 from e] at this
  revert this;decide
 exact⟨⟨g.gb.nl,g.gb.bl,g.le,λe=>bV e h⟩,List.countP_eq_zero.mpr λy hy q=>h (by rw[Ac9.mp hy] at q;exact Um z (of_decide_eq_true q))⟩
theorem GH(z:Str)(ws:List Str):ia (z::ws)=ia [z]+ia ws:=FO (us:=[z])
theorem LS(hp:∀z,pl z->GC z){l:List Str}(h:bE.jj fU dg pl ws l):(∀z∈ws,GW z)/\ia ws<=l.length:=by
 induction h with
 | nil=>exact⟨(λz hz=>by cases hz),Aa6 _⟩
 | one x px _ ih=>
  obtain⟨g1,g2⟩:=(hp x px).gw;refine⟨λz hz=>(Aa7.mp hz).elim (λe=>e▸g1) (ih.1 z),?_⟩;rw[GH,g2,Aa9];omega
 | tM t t2 t60 hu _ _ zR zS=>
  rename_i us u ws l _ _
  obtain⟨h1,h2,h3,h4,_⟩:=OX t (by omega) t2;have go:GW (fU t):=⟨h2,h3,h4,λ_=>Ac4.mpr ⟨t - 2,Ae4.mpr (by omega),by rw[show t - 2+2=t by omega]⟩⟩;have gc:GW dg/\ia [dg]=0:=⟨⟨by decide +kernel,by decide +kernel,by decide +kernel,by decide +kernel⟩,by decide +kernel⟩;refine⟨λz hz=>?_,?_⟩
  .rcases Aa7.mp hz with rfl | q
   .exact go
   .rcases Ad6.mp q with q | q
    .exact zR.1 z q
    .exact(Aa7.mp q).elim (λe=>e▸gc.1) (zS.1 z)
  .have:=Ae9.mpr hu;have hm:u.length*2<=u.length*t:=Ar4 _ t2;have:=OA (fU t);rw[GH,FO,GH dg,gc.2,Aa5,bE.gD];omega
theorem WB:∀z∈(["shafts","treadles","thread","tie","tread","warp","weft"]:List Str),(10:Nat)∉z.cps.toList/\(32:Nat)∉z.cps.toList/\z.length<=100/\(C4 z=40->z∈S8)/\ia [z]=0:=by decide +kernel
theorem eG.rbs(ok:eG d)(s:yC d w1 w2 w3 w4):sQ 0 (HR d w1 w2 w3 w4):=by
 have b:∀{nm:Str} {ws:List Str},nm∈(["shafts","treadles","thread","tie","tread","warp","weft"]:List Str)->(∀z∈ws,GW z)/\ia ws<=60->ws.length<=180->RB 0 (nm::ws):=λ{nm ws} g1 g2 h=>by
  obtain⟨h1,h2,h3,h4,h5⟩:=WB nm g1;exact⟨by rw[Aa9];omega,λz hz=>(Aa7.mp hz).elim (λe=>e▸⟨h1,h2,h3,h4⟩) (g2.1 z),by rw[GH,h5];have:=g2.2;omega⟩
 have pl:∀{ws:List Str},ws.length<=60->(∀z∈ws,GC z)->(∀z∈ws,GW z)/\ia ws<=60:=λ{ws} h g=>⟨λz hz=>(g z hz).gw.1,Ab4 AB5 h⟩;have q1:=Cp s.a1;have q2:=Cp s.a2;have q3:=Cp s.a3;have q4:=Cp s.a4;have r1:=LS ok.g1 s.a1;have r2:=LS ok.g2 s.a2;have r3:=LS ok.g3 s.a3;have r4:=LS ok.g4 s.a4;rw[Aa0] at q1 q2 r1 r2;have:=ok.h2;have:=ok.p2;have:=ok.wl;have:=ok.fl;refine⟨by rw[ok.yF];omega,by rw[ok.yF];have:=ok.t2;omega,λr hr=>?_⟩;unfold HR at hr;rcases Ad6.mp hr with hr | hr
 .rcases Ad6.mp hr with hr | hr
  .rcases Aa7.mp hr with rfl | hr
   .exact b (by simp) (pl (show 1<=60 by decide) λz hz=>by rw[Ac9.mp hz];exact HU ok.s2) (show 1<=180 by decide)
   .rcases Aa7.mp hr with rfl | hr
    .exact b (by simp) (pl (show 1<=60 by decide) λz hz=>by rw[Ac9.mp hz];exact HU ok.t2) (show 1<=180 by decide)
    .rw[Ac9.mp hr];exact b (by simp) ⟨r1.1,by omega⟩ (by omega)
  .obtain⟨l,hl,rfl⟩:=Ac4.mp hr;have tl:=(ok.vE l hl).2;refine b (by simp) (pl (by omega) λz hz=>?_) (by omega);unfold Ly at hz;split at hz
   .rw[Ac9.mp hz];exact⟨by decide +kernel,by decide +kernel,by decide +kernel⟩
   .obtain⟨n,h,rfl⟩:=Ac4.mp hz;exact HU (ok.rm l hl n h)
 .rcases Aa7.mp hr with rfl | hr
  .exact b (by simp) ⟨r2.1,by omega⟩ (by omega)
  .rcases Aa7.mp hr with rfl | hr
   .exact b (by simp) ⟨r3.1,by omega⟩ (by omega)
   .rw[Ac9.mp hr];exact b (by simp) ⟨r4.1,by omega⟩ (by omega)
noncomputable def Ij(r:List Str):List Str:=if r=[] then [""] else r
theorem QB(h:z.cps.toList=[]):z="":=by
 obtain⟨⟨l⟩⟩:=z;have h:l=[]:=h;rw[h];rfl
theorem Ui(B:RB k r):Ai8 (Ak4 " " r) " "=Ij r:=by
 rw[So];by_cases h:(Am8 ⟨#[32]⟩ r).cps.toList=[]
 .have e:Ak4 ⟨#[32]⟩ r="":=(Ki _ _).trans (QB h);rw[e,show Ai8 ("":Str) ⟨#[32]⟩=[("":Str)] by decide +kernel]
  match r,h with
  | [],_=>rfl
  | [w],h=>rw[QB (z:=w) h];rfl
  | w::v::r,h=>rw[Ji] at h;simp at h
 .have n:r≠[]:=λz=>by rw[z] at h;exact h rfl
  unfold Ij;rw[bG n];exact MS.jh 32 (by decide) r n (λw hw=>(B.w w hw).bl) h
theorem Xh(B:RB k r)(hk:k<=2):(10:Nat)∉(Ak4 " " r).cps.toList/\(Ak4 " " r).length<=20000:=by
 rw[So,Ki];refine⟨λh=>?_,?_⟩
 .rcases II h with z | ⟨y,hy,hc⟩
  .cases z
  .exact(B.w y hy).nl hc
 .have:=Lq (s:=32) (n:=100) λz hz=>(B.w z hz).le;have:=B.len;omega
theorem Pl{ts:List Str}(h:∀z∈ts,(10:Nat)∉z.cps.toList)(hl:2<=ts.length):Ai8 (Ak4 "\n" ts) "\n"=ts:=by
 rw[Qr]
 match ts,hl with
 | w::v::r,_=>exact MS.jh 10 (by decide) _ (by simp) h (by rw[Ji];simp)
theorem OR{s:Nat}{v:Str}:∀{ws:List Str},ws≠[]->Am8 ⟨#[s]⟩ (ws++[v])=Am8 ⟨#[s]⟩ ws++⟨#[s]⟩++v
 | [w],_=>rfl
 | w::u::r,_=>by
  have:=OR (s:=s) (v:=v) (ws:=u::r) (by simp);show w++⟨#[s]⟩++Am8 ⟨#[s]⟩ ((u::r)++[v])=w++⟨#[s]⟩++Am8 ⟨#[s]⟩ (u::r)++⟨#[s]⟩++v;rw[this];simp only[Str.append_assoc]
theorem TY(z:Str):z++("":Str)=z:=Str.ext' (by rw[Str.cps_append,show ("":Str).cps= #[] by decide +kernel,Array.append_empty])
theorem Re(h:ts≠[]):Ak4 "\n" ts++("\n":Str)=Ak4 "\n" (ts++[("":Str)]):=by
 rw[Qr,Ki,Ki,OR h,TY]
theorem Ou(B:sQ k rows)(hk:k<=2):(rows.map (Ak4 " ")).map (λr=>Ai8 r " ")=rows.map Ij:=by
 rw[Ae2];exact Av7 λr hr=>Ui (B.r r hr)
theorem NM(B:RB k r)(hk:k<=2):nq (Ij r):=by
 unfold Ij;split
 .exact⟨by simp,by decide,by decide +kernel,by decide +kernel,by decide +kernel⟩
 .rename_i h
  have:=B.len;have:=B.ops;exact⟨h,by omega,λz hz=>(B.w z hz).le,λz hz=>(B.w z hz).op,by omega⟩
theorem ai(B:sQ k rows)(hk:k<=2):o9 (Ak4 "\n" (rows.map (Ak4 " "))) (rows.map Ij)/\o9 (Ak4 "\n" (rows.map (Ak4 " "))++("\n":Str)) (rows.map Ij++[[("":Str)]]):=by
 have lo:=B.lo;have hi:=B.hi;have zJ:∀z∈rows.map (Ak4 " "),(10:Nat)∉z.cps.toList/\z.length<=20000:=λz hz=>by
  obtain⟨r,h1,rfl⟩:=Ac4.mp hz;exact Xh (B.r r h1) hk
 have key:∀{ts:List Str} {rs:List (List Str)},(∀z∈ts,(10:Nat)∉z.cps.toList/\z.length<=20000)->2<=ts.length->ts.length<=40->rs=ts.map (λr=>Ai8 r " ")->(∀r∈rs,nq r)->o9 (Ak4 "\n" ts) rs:=λ{ts rs} h1 h2 h3 e ok=>by
  have sp:=Pl (λz hz=>(h1 z hz).1) h2;refine⟨?_,by rw[sp];exact e,by rw[sp];omega,λr hr=>by rw[sp] at hr;exact Ab4 (h1 r hr).2 (by decide),λr hr=>⟨(ok r hr).len,(ok r hr).le⟩⟩;rw[Qr,Ki];have:=Lq (s:=10) (n:=20000) λz hz=>(h1 z hz).2;omega
 have ok:∀r∈rows.map Ij,nq r:=λr hr=>by
  obtain⟨q,h1,rfl⟩:=Ac4.mp hr;exact NM (B.r q h1) hk
 refine⟨key zJ (by rw[Aa0];omega) (by rw[Aa0];omega) (Ou B hk).symm ok,?_⟩;rw[Re (λz=>by have:=congrArg Ah4 z;rw[Aa0,Ah5] at this;omega)];refine key (λz hz=>(Ad6.mp hz).elim (zJ z) λe=>?_) (by rw[Aa5,Aa0];omega) (by rw[Aa5,Aa0];show _+1<=_;omega) ?_ λr hr=>(Ad6.mp hr).elim (ok r) λe=>?_
 .rw[Ac9.mp e];exact⟨by decide +kernel,by decide +kernel⟩
 .rw[Ac2,Ou B hk,show [("":Str)].map (λr=>Ai8 r " ")=[[("":Str)]] by decide +kernel]
 .rw[Ac9.mp e];exact NM (r:=[]) (k:=0) ⟨Ad4 _,(λz hz=>by cases hz),Ad4 _⟩ (by decide)
theorem Jp(rows:List (List Str))(i:Nat)(nm:Str):kg (rows++[[("":Str)]]) i nm=kg rows i nm:=by
 unfold kg;by_cases h:i<rows.length
 .rw[Ad9 h]
 .rw[Ae3 (by omega),Ai3 (l:=rows) (by omega)];by_cases e:i=rows.length
  .rw[e,AG2];rfl
  .rw[Ai3 (l:=[[("":Str)]]) (by show 1<=_;omega)]
theorem IM{rows:List (List Str)}{sh:Nat}:∀n,ET (rows++[[("":Str)]]) sh n=ET rows sh n
 | 0=>rfl
 | n+1=>by unfold ET Hr;rw[IM n,Jp]
noncomputable def more(n:Nat):Rs Dr->Rs Dr
 | .ok _=> .error (n+1,0)
 | .error e=> .error e
theorem Gy{α:Type}{m:Rs α}{f g:α->Rs Dr}(h:∀a,m= .ok a->g a=more n (f a)):fF m g=more n (fF m f):=by
 cases m with
 | ok a=>exact h a rfl
 | error e=>rfl
theorem WU(h:iR rows i nm fits mx least= .ok x):i<rows.length:=by
 obtain⟨a,h,_⟩:=Ll h;unfold kg at h;by_cases q:i<rows.length
 .exact q
 .rw[Ai3 (by omega)] at h;cases h
theorem T5(rows:List (List Str)):RD (rows++[[("":Str)]])=more rows.length (RD rows):=by
 have i1:∀i nm,ER (rows++[[("":Str)]]) i nm=ER rows i nm:=λi nm=>by unfold ER;rw[Jp]
 have i2:∀i nm f a b,iR (rows++[[("":Str)]]) i nm f a b=iR rows i nm f a b:=λi nm f a b=>by unfold iR;rw[Jp]
 unfold RD;simp only[i1,i2,IM,Aa5,Ah9];refine Gy λsh _=>Gy λtr _=>Gy λth _=>Gy λti _=>Gy λtd _=>Gy λwa _=>Gy λwe h=>?_;have:=WU h;rw[bS (by omega)];by_cases q:tr+6<rows.length
 .rw[bS q];rfl
 .rw[bG q,show rows.length=tr+6 by omega];rfl
theorem Ts:RD [[("":Str)]]= .error (1,0):=AT (AT (by unfold kg;rw[show ([[("":Str)]]:List (List Str))[0]?=aS [("":Str)] from rfl];exact bS (by simp)))
theorem RY:o9 ("":Str) [[("":Str)]]:=by
 have e:Ai8 ("":Str) "\n"=[("":Str)]:=by decide +kernel
 exact⟨by decide +kernel,by rw[e];decide +kernel,by rw[e];decide,by rw[e];decide +kernel,by decide +kernel⟩
noncomputable def zX:Rs Dr->Dt
 | .ok d=>wI d
 | .error e=> .tup [.int (e.1:Nat), .int (e.2:Nat)]
theorem KO{q:Addr}{a b:Nat}(h:H q=aS (.tup [nV a,nV b])):Rp H FT 3 (.ref q) (zX (.error (a,b))):= .tup h (show 2<=100000 by decide) rfl λi v d ev ed=>by
 match i,ev,ed with
 | 0,rfl,rfl=>exact .int _
 | 1,rfl,rfl=>exact .int _
theorem IE{t1 t2:Addr}{E:XK}(tb:Tb t1 t2 H)(tx:o9 z rows)(k:∀H' p,dQ t1 t2 H H'->Rp H' FT 3 (.ref p) (zX (RD rows))->Q (.ref p) H'):Et K c t1 t2 [.str z] H Q E:=
 ⟨_,rfl,tb, .inr ⟨z,rows,rfl,tx,λd H' p e x _ r=>k H' p x (by rw[e];exact r),λe H' q er x g=>k H' q x (by rw[er];exact KO g)⟩⟩
theorem Ut{E:XK}(R:dI H D as rows)(ok:∀r∈rows,nq r)(l:rows.length<=900)(k:∀H' p,Same H H'->Rp H' FT 3 (.ref p) (zX (RD rows))->Q (.ref p) H'):EL K [.ref D] H Q E:=
 ⟨D,as,rows,rfl,R,ok,l,λd H' p e s r=>k H' p s (by rw[e];exact r),λe H' q er s g=>k H' q s (by rw[er];exact KO g)⟩
theorem gy.self(g:H D=aS (.lst (as.map V.ref)))(h:gy H as rows):D∉as:=λhm=>by
 obtain⟨i,hi,e⟩:=List.getElem_of_mem hm;have hl:=h.len;obtain⟨b,eb,gb⟩:=h.get (i:=i) (u:=rows[i]'(by omega)) (Aa3 _);rw[Aa3 hi,e] at eb;cases eb;rw[g] at gb;injection gb with gb;injection gb with gb;have l2:=congrArg Ah4 gb;rw[Aa0,Aa0] at l2;have e0:=congrArg (λl=>l[0]?) gb;rw[Ac1,Ac1,Aa3 (l:=as) (by omega),Aa3 (by omega)] at e0;cases e0
theorem Rg{v u:V}(h1:Rp H FT 3 v d)(h2:Rp H FT 3 u d)(t:Cy d=true)(k:Q (.bl false) H):Ub true v u H Q:=⟨3,d,d,by decide,h1,h2,by rw[t];simp,by rw[Fn];exact k⟩
theorem Sy{v u:V}(h1:Rp H FT 3 v d)(h2:Rp H FT 3 u d)(t:Cy d=true)(k:Q (.bl true) H):Ub false v u H Q:=⟨3,d,d,by decide,h1,h2,by rw[t];simp,by rw[Fn];exact k⟩
theorem O1(r:Rs Dr):Cy (zX r)=true:=by cases r <;> rfl
noncomputable abbrev LwA(a:Addr)(W:Int)(H2:Hp)(i:Nat)(σ:L2.St)(H':Hp):Prop:=∃x3 rp as rows,σ=[aS (.ref a),aS (.int W),aS (.ref rp),x3,aV,aV,aV,aV]/\Same H2 H'/\dI H' rp as rows/\sQ i rows
noncomputable abbrev LwB(a:Addr)(W:Int)(rp:Addr)(z:Str)(pd t1 t2:Addr)(H9:Hp)(_:Nat)(σ:L2.St)(H':Hp):Prop:=∃x3,σ=[aS (.ref a),aS (.int W),aS (.ref rp),x3,aS (.str z),aS (.ref pd),aV,aV]/\dQ t1 t2 H9 H'
noncomputable abbrev Ro:Stmt:=top 82
theorem fZ:bz ["_law_script","_law_whole","_law_rows_here","_law_turn","_law_text","_law_due_here","_law_odd","_law_more"] ["_law_script"] (Ah Ro):=by w_left
theorem Wd(F:cR K "law" "law" Ro f fd)(T:Txt K mg c)(iL:bF P w K mg base "_law_rows" 8 ["_law_draft_here","_law_number_here"] Hd)(gM:bF P w K mg base "_law_draft" 2 ["_law_script","_law_most"] (FZ K))(bD:bF P w K mg base "_law_mixed" 1 ["_law_cell","_law_k"] By)(iM:bF P w K mg base "_law_bent" 1 ["_law_rows_here","_law_number_here"] GF)(iN:bF P w K mg base "_law_read" 133 ["_law_rows_here"] (EL K))(iF:bF P w K mg base "_law_same" (4+1) ["_law_found","_law_due_here"] (CK 4))(dD:bF P w K mg base "_law_told" 12 ["_law_text"] (Et K c iD iE)):bQ P w K mg base c6 134 f fd ["_law_script"] (LQ K [iE,iD]):=by
 tbr_iter (F.ok fZ)
 .obtain⟨a,ns,rfl,sa,hn,hT,nd,k⟩:=h;have hu:=hr.cC;have tb:Tb iD iE H:=⟨Kr (hT _ (by simp)),Kr (hT _ (by simp)),λz=>by rw[z] at nd;simp at nd⟩;refine⟨_,(Ac (Am 1 fZ.nd (Aj Av (Ai (UE (K:=K)) rfl T.ow boot_sum (Aa (pv 0) Ab)) (Ai (AF (K:=K)) rfl T.ow Aj3 (Aa (pv 0) Ab))))
   (Ac (Am 2 fZ.nd (Ag iL hr.mo (Aa (Ag gM hr.mo (Aa (pv 0) (Aa Ad Ab))) (Aa (pv 1) Ab))))
   (Ac (EK Al5 rfl (DS rfl T.ow (Aa (Aj A1 (Ag bD hr.mo (Aa (pv 1) (Aa Ad Ab))) Ad) Ab)) (BB (i:=3) fZ.nd rfl (Ao0 rfl)) (Ae (Am 2 fZ.nd (Ag iM hr.mo (Aa (pv 2) (Aa (Ag bD hr.mo (Aa (pv 1) (Aa (Aj Av Ad (pv 3)) Ab))) Ab))))))
   (Ac (Am 4 fZ.nd (Bl (K:=K) Aj5 At1 At2 (LB (K:=K)) Af (Aa (AD (Bp (K:=K) (pv 2)) (λ_ _ _ _=>AC) (λ_ _ _ _=>(Bl (K:=K) Aj5 At1 At2 (LB (K:=K)) Af (Aa (pv 0) Ab)))) Ab)))
   (Ac (Am 5 fZ.nd (Ag iN hr (Aa (AD (Bp (K:=K) (Bl (K:=K) Aj5 Al2 An1 FU (pv 4) (Aa Af Ab))) (λ_ _ _ _=>AC) (λ_ _ _ _=>(Bl (K:=K) Aj5 Al2 An1 FU (pv 0) (Aa Af Ab)))) Ab)))
   (Ac (EK Al5 rfl (DS rfl T.ow (Aa Ad Ab)) (BB (i:=3) fZ.nd rfl (Ao0 rfl)) (Ae (Aw (BI (A4 (Ag iF hr.mo (Aa (Ag dD hr.mo (Aa (pv 4) Ab)) (Aa (pv 5) Ab))))) (Ae (Ao FC)) Aq)))
   (Ac (Am 6 fZ.nd (AS (Bt (K:=K)) (As (Aa AV (Aa Ad (Aa FC (Aa (As (Aa (pv 4) Ab)) (Aa (AY (Aa (pv 4) Ab)) (Aa RX (Aa (As Ab) Ab)))))))) (Aj A1 (Ag bD hr.mo (Aa (pv 1) (Aa Ad Ab))) Ad) (λ_ _=>rfl)))
   (Ac (Aw (PW.pt (Dm (Ak (Q2 hr.units) (Ag dD hr.mo (Aa (pv 6) Ab)) (AY (Aa Ad (Aa Ad Ab))) (Ap _)) (Cg (Ak (Q2 hr.units) (Ag dD hr.mo (Aa Af Ab)) (AY (Aa Ad (Aa Ad Ab))) (Ap _))))) (Ae (Ao FC)) Aq)
   (Ac (Am 7 fZ.nd (C1 (Ak Bb (Ai (AF (K:=K)) rfl T.ow Aj3 (Aa (pv 5) Ab)) Ad (Ap _)) (AY (Aa (Aj Av (Ai (AF (K:=K)) rfl T.ow Aj3 (Aa (pv 2) Ab)) Ad) (Aa Ad Ab))) (pv 5)))
   (Ae (Ao (Bw (VC hr.units) (Ag dD hr.mo (Aa (Aj JI (pv 4) Af) Ab)) (pv 7) (Ap _))))))))))))),?_⟩
  exists R0 sa ?_;exists Ax sa ?_;w_fin;generalize ns.sum+(((ns.map V.int).length:Nat):Int)=W;refine⟨a,ns,4,rfl,sa,hn,by decide,by decide,λH1 pd d s1 hpd r1 ok=>?_⟩;exists ⟨_,d,W,rfl,r1.any,ok,λH2 p2 as2 w1 w2 w3 w4 s2 n2 R2 qg=>?_⟩;have B2:=ok.rbs qg;generalize HR d w1 w2 w3 w4=yM at R2 B2;clear qg r1 ok;exists ⟨W,70,rfl,⟨by decide,by decide⟩,?_⟩;exists AE (by decide) ?_;obtain⟨n3,e3,l3⟩:=P2 (CD W 70) (m:=3) (by decide);rw[show CD W 70%3=((n3:Nat):Int) from e3];have s02:=s1.trans s2;refine⟨n3,rfl,by omega,by omega,Ea (H0:=H2) (Kz (n:=n3)) (LwA a W H2) ⟨_,p2,as2,yM,rfl,Same.refl _,R2,B2⟩ (λi σ H' h=>by obtain⟨_,_,_,_,_,s,_⟩:=h;exact s) ?_ ?_⟩
  .rintro i σ H' H3 hi ⟨x3,rp,as,rows,rfl,s',R',B'⟩ s3;exists ⟨W,_,rfl,⟨by omega,by omega⟩,?_⟩;exists ⟨rp,as,rows,_,i,rfl,R'.same s3,B',by omega,λH4 p4 as4 yN s4 n4 R4 B4=>?_⟩;exact⟨_,p4,as4,yN,rfl,s'.trans (s3.trans s4),R4,B4⟩
  rintro σ H3 ⟨x3,rp,as,rows,rfl,s3,R3,B3⟩;have hk:n3<=2:=by omega
  have lo:=B3.lo;have hi:=B3.hi;have lE:=R3.el.len;obtain⟨tx,zY⟩:=ai B3 hk;have okR:∀r∈rows.map Ij,nq r:=λr hr=>by
   obtain⟨q,h1,rfl⟩:=Ac4.mp hr;exact NM (B3.r q h1) hk
  exists rK ?_;exists ⟨rp,rfl,⟨_,bx.of R3.at'⟩,λD6 tU=>?_⟩;refine Cm (G:=λi=>Ak4 " " (rows.getD i [])) (AH (bx.of R3.at') rfl) tU (by rw[Aa0];omega) ?_ ?_
  .intro i H' R hi s kk;rw[Aa0] at hi;have gn:i<rows.length:=by omega
   have er:rows[i]?=aS (rows.getD i []):=by rw[Aa2,Aa3 gn];rfl
   obtain⟨a',ea,ga⟩:=R3.el.get er;have ev:((as.map V.ref).getD i .bC)= .ref a':=by rw[Aa2,Ac1,ea];rfl
   rw[ev];have Br:=B3.r _ (Ad0 er);exists rK ?_;exists ⟨_,a',_,rfl,rfl,bx.of (s _ _ ga),?_,kk H' (Same.refl _)⟩;have:=IG λz hz=>(Br.w z hz).le;have:=Br.len;show _+(rows.getD i []).length*1<=_;omega
  intro H6 s6 g6;rw[Aa0,lE,A7] at g6;exists _,D6,_,rfl,rfl,bx.of g6,?_
  .have:=IG (zs:=rows.map (Ak4 " ")) (c:=20000) λz hz=>by
    obtain⟨r,h1,rfl⟩:=Ac4.mp hz;exact(Xh (B3.r r h1) hk).2
   rw[Aa0] at this ⊢;show _+rows.length*1<=_;omega
  have nz:rows.map Ij≠[]/\(rows.map Ij).length=rows.length:=⟨λz=>by have:=congrArg Ah4 z;rw[Aa0,Ah5] at this;omega,Aa0 ..⟩;generalize Ak4 "\n" (rows.map (Ak4 " "))=z at tx zY;generalize rows.map Ij=gX at tx zY okR nz;exists rK ?_;exists ⟨_,_,rfl,rfl,by decide,by rw[Aj9];have:=tx.le;omega,?_⟩;row_lines H6 x7;exists ⟨p7,rfl,⟨_,bx.of g7⟩,λD8 hD8=>?_⟩;have ln:=tx.ln;refine A3 (m:=1) (G:=λi=>dS (Ai8 ((Ai8 z "\n").getD i "") " ")) (AH (bx.of g7) rfl) hD8 (by rw[Aa0];omega) ?_ ?_
  .intro i H' R hi s kk;rw[Aa0] at hi;rw[getD_map (e:=("":Str)) hi];have hm:=L2.getD_mem (y:=("":Str)) hi;exists rK ?_;exists ⟨_,_,rfl,rfl,by decide,by rw[Aj9];have:=tx.len _ hm;omega,?_⟩;row_lines H' x9;refine kk H9 _ s9 (QY g9 n9 ?_);have:=(tx.wl _ (by rw[tx.eq];exact List.mem_map_of_mem hm)).1;omega
  intro H8 ys8 s8 hl8 r8;have e8:(Ab7 ((Ai8 z "\n").map V.str).length).map (λi=>dS (Ai8 ((Ai8 z "\n").getD i "") " "))=gX.map dS:=by
   rw[Aa0,tx.eq,Ae2];exact A7 (f:=λr=>dS (Ai8 r " "))
  rw[e8] at r8;obtain⟨as8,h8,A8,f8⟩:=Wx r8;exists Ut ⟨h8,A8,A8.self h8⟩ okR (by omega) λH9 pd s9 r9=>?_;have yO:=tb.same (s02.trans (s3.trans (s6.trans (s7.trans (s8.trans s9)))));have R9:=R3.same (s6.trans (s7.trans (s8.trans s9)));exists ⟨_,rfl,by decide,by decide,Ea (H0:=nt H9) (Kz (n:=2)) (LwB a W rp z pd iD iE H9) ⟨_,rfl,dQ.of (Same.refl _)⟩ (λi σ H' h=>by obtain⟨_,_,x⟩:=h;exact x.st) ?_ ?_⟩
  .rintro i σ H' H10 hi ⟨x3,rfl,x'⟩ s10;have x10:=x'.trans (dQ.of s10);exists IE (x10.tb yO) tx λH11 p11 x11 r11=>?_;exists ⟨_,_,_,rfl,r11,(x10.trans x11).rp r9,λH12 s12=>?_⟩;w_fin;exact⟨_,rfl,(x10.trans x11).trans (dQ.of s12)⟩
  rintro σ H10 ⟨x3,rfl,x10⟩;w_fin;row_lines H10 x11;w_fin;row_lines H11 x12;w_fin;row_lines H12 x13;w_fin;row_lines H13 x14;w_fin;intro p15 n15;generalize exs:[V.bC,V.int 7,V.bl true,V.ref p11,V.ref p12,V.ref p13,V.ref p14]=xs;have lx:xs.length=7:=by rw[<-exs];rfl
  wrow_has H14 x15;have aaH:∀v∈xs,Ty K H15 v/\Lv v=false:=by
   rw[<-exs];intro v hv;simp only[Aa7,Az0,or_false] at hv;rcases hv with rfl | rfl | rfl | rfl | rfl | rfl | rfl
   .exact⟨⟨_, .bC⟩,rfl⟩
   .exact⟨⟨_, .int _⟩,rfl⟩
   .exact⟨⟨_, .bl _⟩,rfl⟩
   .exact⟨⟨_, .lst (s15 _ _ (s14 _ _ (s13 _ _ (s12 _ _ g11))))⟩,rfl⟩
   .exact⟨⟨_, .tup (s15 _ _ (s14 _ _ (s13 _ _ g12)))⟩,rfl⟩
   .exact⟨⟨_, .dK (s15 _ _ (s14 _ _ g13))⟩,rfl⟩
   .exact⟨⟨_, .lst (s15 _ _ g14)⟩,rfl⟩
  exists ⟨W,80,rfl,⟨by decide,by decide⟩,?_⟩;exists AE (by decide) ?_;obtain⟨b,eb,lb⟩:=P2 (CD W 80) (m:=7) (by decide);rw[show CD W 80%7=((b:Nat):Int) from eb];have em:xs[b]?=aS (xs.getD b .bC):=by rw[Aa2,Aa3 (by omega)];rfl
  obtain⟨tv,iv⟩:=aaH _ (Ad0 em);generalize xs.getD b .bC=odd at em tv iv;refine AU (bx.of g15) (AA em) ?_;have x15:=x10.trans (dQ.of (s11.trans (s12.trans (s13.trans (s14.trans s15)))));exists ⟨odd,rfl,x15.tb yO, .inl ⟨tv,iv,λH16 q16 y16 g16=>?_⟩⟩;have x16:=x15.trans y16;w_fin;row_lines H16 x17;refine Rg (KO (s17 _ _ g16)) (KO (a:=1) (b:=0) g17) (O1 _) ?_;have x17:=x16.trans (dQ.of s17);exists IE (x17.tb yO) RY λH18 p18 zL r18=>?_;rw[Ts] at r18;have x18:=x17.trans zL;w_fin;row_lines H18 x19;refine Rg (r18.same s19) (KO (a:=1) (b:=0) g19) (O1 _) ?_;have x19:=x18.trans (dQ.of s19);w_fin;have yQ:=x19.rp r9;have e':=T5 gX;have tl:=tx.le;cases e:RD gX with
  | ok d=>
   rw[e] at yQ e';obtain⟨m,ad,z0,z1,z2,z3,z4,z5,z6,em,ead,had,_⟩:=Pd yQ;cases ead;refine Mb (dj.of had) ?_;exists Az (λ_=>?_) (λq=>bV rfl q);exists Ax (bx.of (x19.lst R9.at')) ?_;w_fin;row_lines H19 x20;exists ⟨_,_,rfl,rfl,by rw[Aj9];show _+1<=_;omega,?_⟩;exists IE ((x19.trans (dQ.of s20)).tb yO) zY λH21 p21 y21 yR=>?_;rw[e'] at yR;have e20:(((as.map V.ref).length:Nat):Int)+1=((gX.length+1:Nat):Int):=by rw[Aa0,lE,nz.2];omega
   rw[e20] at g20;w_fin;exact Sy yR (y21.rp (KO (b:=0) g20)) rfl (k _)
  | error er=>
   rw[e] at yQ e';obtain⟨m,ad,vs,em,ead,had,lv,_⟩:=ND yQ;cases ead;refine Mb (dj.of had) ?_;rw[lv];exists Az (λq=>bV q (by show ¬ ((2:Nat):Int)=7;decide)) (λ_=>?_);exists ⟨_,_,rfl,rfl,by rw[Aj9];show _+1<=_;omega,?_⟩;exists IE (x19.tb yO) zY λH21 p21 y21 yR=>?_;rw[e'] at yR;w_fin;exact Sy yR (y21.rp yQ) rfl (k _)
end
end
end K06
namespace K06
open PySem L2 PySem.Spec PyProof.Rows
theorem all_mk{l:Ay1}(X:K.In h)(G:h.Ns Al3 mg)(hfa:mg "law"=aS (.ref fa))
  {gO iO eB cZ jW jv jw jx jy gP f0 f1 f2 f3 f4 f5 f6 f7 f8 f9 f10 f11 f12 f13 f14 f15 f16 f17 f18 f19 f20 f21 f22 f23 f24 f25 f26 f27 f28 f29 f30 f31 f32 f33 f34 f35 f36 f37 f38 f39 f40 f41 f42 f43 f44 f45 f46 f47 f48 f49 f50 f51 f52 f53 f54 f55:Addr} {d0 d1 d2 d3 d4 d5 d6 d7 d8 d9 d10 d11 d12 d13 d14 d15 d16 d17 d18 d19 d20 d21 d22 d23 d24 d25 d26 d27 d28 d29 d30 d31 d32 d33 d34 d35 d36 d37 d38 d39 d40 d41 d42 d43 d44 d45 d46 d47 d48 d49 d50 d51 d52 d53 d54 d55:Am7}
   
  (T0:(∃fi,HT.jB K eB fi=true)->(∃fi,HT.jB K cZ fi=true)->Txt K mg ⟨gO,iO,eB,cZ,jW,jv,jw,jx,jy,gP⟩)
  (D0:bJ K mg "_law_same" Du ["_law_found","_law_due_here"] f0 d0)
  (D1:bJ K mg "is_whole" Gh ["thing"] f1 d1)
  (D2:bJ K mg "is_among" Gi ["thing","least","most"] f2 d2)
  (D3:bJ K mg "number_of" Fz ["word"] f3 d3)
  (D4:bJ K mg "times_of" Gb ["word"] f4 d4)
  (D5:bJ K mg "taken" Lu ["word","held","times"] f5 d5)
  (a6:Aj4 K (.ref cZ) "__init__"=aS (aS (.ref f6)))
  (j6:zD K cZ f6)
  (D6:yh K "__init__" "BadWord.__init__" BR ["self","place"] f6 d6)
  (D7:bJ K mg "can_stand" Fu ["word","held","times","fits"] f7 d7)
  (D8:bJ K mg "spread" Jl ["words","most","fits"] f8 d8)
  (D9:bJ K mg "_law_kinds" Ez ["_law_error"] f9 d9)
  (D10:bJ K mg "is_colour" Fm ["thing"] f10 d10)
  (D11:bJ K mg "need" N1 ["holds","words"] f11 d11)
  (yH:bJ K mg "is_list" Hm ["thing","least","most"] f12 d12)
  (D13:bJ K mg "is_rising" E8 ["thing","most"] f13 d13)
  (D14:bJ K mg "are_rising" Ex ["thing","most"] f14 d14)
  (D15:bJ K mg "are_colours" DP ["thing","many"] f15 d15)
  (D16:bJ K mg "need_draft" EQ ["shafts","treadles","threading","ties","treading","warp","weft"] f16 d16)
  (j17:Mk K gO f17)
  (D17:yh K "__init__" "Draft.__init__" Ck ["self","shafts","treadles","threading","ties","treading","warp","weft"] f17 d17)
  (j18:Meth K gO "told" f18)
  (D18:yh K "told" "Draft.told" Ew ["self"] f18 d18)
  (D19:bJ K mg "_law_mixed" EF ["_law_cell","_law_k"] f19 d19)
  (D20:bJ K mg "_law_cells" Em ["_law_script","_law_first"] f20 d20)
  (D21:bJ K mg "_law_numbers" De ["_law_mask","_law_most"] f21 d21)
  (D22:bJ K mg "_law_draft" Eo ["_law_script","_law_most"] f22 d22)
  (D23:bJ K mg "_law_times" El ["_law_word"] f23 d23)
  (D24:bJ K mg "_law_group" CP ["_law_state","_law_most","_law_goods","_law_times_here"] f24 d24)
  (D25:bJ K mg "_law_level" CO ["_law_state","_law_most","_law_goods","_law_is_open"] f25 d25)
  (D26:bJ K mg "_law_due" Gs ["_law_words","_law_most","_law_goods"] f26 d26)
  (D27:bJ K mg "numbers_told" CY ["words"] f27 d27)
  (D28:bJ K mg "trodden_words" CB ["word"] f28 d28)
  (D29:bJ K mg "_law_pick" E9 ["_law_pick_here"] f29 d29)
  (D30:bJ K mg "_law_again" EM ["_law_items","_law_at","_law_size","_law_times_here"] f30 d30)
  (D31:bJ K mg "_law_grouped" B7 ["_law_items","_law_number_here"] f31 d31)
  (D32:bJ K mg "_law_rows" Fy ["_law_draft_here","_law_number_here"] f32 d32)
  (a33:Aj4 K (.ref eB) "__init__"=aS (aS (.ref f33)))
  (j33:zD K eB f33)
  (Cn:yh K "__init__" "BadRow.__init__" B0 ["self","row","word"] f33 d33)
  (D34:bJ K mg "words_of" Ge ["row"] f34 d34)
  (D35:bJ K mg "words_behind" C5 ["rows","number","name"] f35 d35)
  (D36:bJ K mg "read_count" EG ["rows","number","name","most"] f36 d36)
  (D37:bJ K mg "rising_words" CZ ["words","most"] f37 d37)
  (D38:bJ K mg "read_tie" Gn ["rows","number","shafts"] f38 d38)
  (TM:bJ K mg "read_items" EA ["words","number","most","fits"] f39 d39)
  (D40:bJ K mg "is_pick_word" Dc ["word","treadles"] f40 d40)
  (D41:bJ K mg "read_threading" BF ["rows","number","shafts"] f41 d41)
  (D42:bJ K mg "read_treading" BO ["rows","number","treadles"] f42 d42)
  (D43:bJ K mg "read_colours" Da ["rows","number","name","many"] f43 d43)
  (D44:bJ K mg "read_draft" ED ["text"] f44 d44)
  (D45:bJ K mg "_law_number" DI ["_law_word","_law_least","_law_most"] f45 d45)
  (D46:bJ K mg "_law_rising" DN ["_law_words","_law_most"] f46 d46)
  (D47:bJ K mg "_law_picks" Ek ["_law_most"] f47 d47)
  (D48:bJ K mg "_law_named" EH ["_law_state","_law_name"] f48 d48)
  (D49:bJ K mg "_law_counted" Di ["_law_state","_law_name"] f49 d49)
  (D50:bJ K mg "_law_itemed" DM ["_law_state","_law_name","_law_most","_law_goods","_law_least"] f50 d50)
  (D51:bJ K mg "_law_tied" E4 ["_law_state","_law_shafts"] f51 d51)
  (D52:bJ K mg "_law_read" Fp ["_law_rows_here"] f52 d52)
  (D53:bJ K mg "_law_told" Fg ["_law_text"] f53 d53)
  (D54:bJ K mg "_law_bent" Fe ["_law_rows_here","_law_number_here"] f54 d54)
  (D55:bJ K mg "law" Ro ["_law_script"] f55 d55)
  (hlb:∀(s:aT) (u:Value),AF2 s d55 ⟨[u],[]⟩ [("_law_script",u)])
  (hts:ts=[iE,iD])
  (aaI:d41.code= .ref zZ)
  (yS:PySem.W.codeHdIn K zZ iD=true)
  (aaJ:d42.code= .ref z9)
  (yT:PySem.W.codeHdIn K z9 iE=true)
  : ∃fd:Am7,(∀(s:aT) (u:Value),AF2 s fd ⟨[u],[]⟩ [("_law_script",u)])/\(∀h':Heap,K.In h'->∀T∈ts,∃c,As4 h' c T)/\∀base:Heap,K.In base->base.Ns Al3 mg->(∀T∈ts,base.BuiltinsAt mg T)->bQ l.prog w K mg base c6 134 fa fd ["_law_script"] (LQ K ts):=by
 subst hts;cases hfa.symm.trans D55.at';have T:=T0 ⟨_,j33.wg⟩ ⟨_,j6.wg⟩;have hCd:∀h':Heap,K.In h'->∀T∈[iE,iD],∃c,As4 h' c T:=by
  intro _ X2 T hT;rcases Aa7.mp hT with z | hT
  .subst z;exact⟨z9,Au8 X2 yT⟩
  rcases Aa7.mp hT with z | hT
  .subst z;exact⟨zZ,Au8 X2 yS⟩
  cases hT
 exact⟨_,hlb,hCd,λbase Xb _ wO=>by
  have jH:=Au8 Xb yS;have hd2:=Au8 Xb yT;have cQ:=D1.call (Dy (P:=l.prog) (w:=w) (base:=base) D1.fn T);have bB:=D2.call (Dw D2.fn T cQ);have bH:=D3.call (CJ D3.fn T bB);have cz:=D4.call (DC D4.fn T bH bB);have iP:=D5.call (IS D5.fn T cz);have dw:B5 l.prog w K mg base "BadWord" cZ 1 ["self","place"] _:=⟨_,_,T.gr,j6,BH (P:=l.prog) (w:=w) (base:=base) D6.fn T,D6.bi⟩;have cP:(∃fs,mg "can_stand"=aS (.ref fs)/\Ak7 K (.ref fs)=true)/\∀(cg:Heap) (fl:Addr) (sL:Sp),jQ l.prog w K mg cg 6 fl sL->bF l.prog w K mg cg "can_stand" 7 ["word","held","times","fits"] (DJ fl sL):=⟨⟨_,D7.at',D7.fn.kp⟩,λcg fl sL lv=>by
   have cQ:=D1.call (Dy (P:=l.prog) (w:=w) (base:=cg) D1.fn T);have bB:=D2.call (Dw D2.fn T cQ);have bH:=D3.call (CJ D3.fn T bB);have cz:=D4.call (DC D4.fn T bH bB);have cP:=D7.call (EN lv D7.fn T cz);exact cP⟩
  have gv:(∃fs,mg "spread"=aS (.ref fs)/\Ak7 K (.ref fs)=true)/\∀(cg:Heap) (fl:Addr) (sL:Sp),jQ l.prog w K mg cg 6 fl sL->BJ l.prog w K mg cg "spread" 8 ["words","most","fits"] (Gg K (⟨gO,iO,eB,cZ,jW,jv,jw,jx,jy,gP⟩:Cs) fl sL):=⟨⟨_,D8.at',D8.fn.kp⟩,λcg fl sL lv=>by
   have cQ:=D1.call (Dy (P:=l.prog) (w:=w) (base:=cg) D1.fn T);have bB:=D2.call (Dw D2.fn T cQ);have bH:=D3.call (CJ D3.fn T bB);have cz:=D4.call (DC D4.fn T bH bB);have cP:=D7.call (EN lv D7.fn T cz);have iP:=D5.call (IS D5.fn T cz);have dw:B5 l.prog w K mg cg "BadWord" cZ 1 ["self","place"] _:=⟨_,_,T.gr,j6,BH (P:=l.prog) (w:=w) (base:=cg) D6.fn T,D6.bi⟩;have gv:=D8.iV (Kh lv D8.fn T cP iP dw);exact gv⟩
  have gJ:=D9.call (JP (P:=l.prog) (w:=w) (base:=base) D9.fn T);have dB:=D10.call (Me (P:=l.prog) (w:=w) (base:=base) D10.fn T);have eK:=D11.call (Tq (P:=l.prog) (w:=w) (base:=base) D11.fn T);have dz:=yH.call (NC yH.fn T bB);have iG:=D13.call (Lm D13.fn T bB);have eX:=D14.call (JY D14.fn T iG);have dY:=D15.call (IQ D15.fn T dz dB);have gE:=D16.call (J4 D16.fn T eK bB dz eX dY);have mq:Q8 l.prog w K mg base "Draft" gO 6 ["self","shafts","treadles","threading","ties","treading","warp","weft"] _:=⟨_,_,T.su,j17,GP (P:=l.prog) (w:=w) (base:=base) D17.fn T gE,D17.bi⟩;have gK:Qy l.prog w K mg base gO "told" 1 ["self"] _:=⟨_,_,T.cH.cl,j18,JW (P:=l.prog) (w:=w) (base:=base) D18.fn T,D18.bi⟩;have bD:=D19.call (J8 (P:=l.prog) (w:=w) (base:=base) D19.fn T);have eY:=D20.call (Ke (P:=l.prog) (w:=w) (base:=base) D20.fn T);have cI:=D21.call (Io (P:=l.prog) (w:=w) (base:=base) D21.fn T);have gM:=D22.call (JZ D22.fn T bD eY cI);have cM:=D23.call (Kd (P:=l.prog) (w:=w) (base:=base) D23.fn T);have ju:=D26.call (MJ (P:=l.prog) (w:=w) (base:=base) D26.fn T (D25.call (CV (P:=l.prog) (w:=w) (base:=base) D25 D24 T cM 129).1));have cy:=D27.call (Iu D27.fn T bH);have cL:=D28.call (HI (P:=l.prog) (w:=w) (base:=base) D28.fn T);have iI:=D29.call (Lf (P:=l.prog) (w:=w) (base:=base) D29.fn T);have cX:=D30.call (J9 (P:=l.prog) (w:=w) (base:=base) D30.fn T);have iL:=D32.call (L9 (P:=l.prog) (w:=w) (base:=base) D32.fn T (D31.call (EV D31 T bD cX 6)) bD iI);have bY:B5 l.prog w K mg base "BadRow" eB 1 ["self","row","word"] _:=⟨_,_,T.kW,j33,Dj (P:=l.prog) (w:=w) (base:=base) Cn.fn T,Cn.bi⟩;have jr:=D34.call (Mh (P:=l.prog) (w:=w) (base:=base) D34.fn T);have bI:=D35.iV (Ih D35.fn T jr bY);have fj:=D36.iV (Kc D36.fn T bI bH bB bY);have cO:=D37.call (Ip D37.fn T bH bB);have jt:=D38.iV (Ng D38.fn T bI cO cy bY);have bX:(∃fs,mg "read_items"=aS (.ref fs)/\Ak7 K (.ref fs)=true)/\∀(cg:Heap) (fl:Addr) (sL:Sp),jQ l.prog w K mg cg 6 fl sL->BJ l.prog w K mg cg "read_items" 9 ["words","number","most","fits"] (BL K (⟨gO,iO,eB,cZ,jW,jv,jw,jx,jy,gP⟩:Cs) fl sL):=⟨⟨_,TM.at',TM.fn.kp⟩,λcg fl sL lv=>by
   have cQ:=D1.call (Dy (P:=l.prog) (w:=w) (base:=cg) D1.fn T);have bB:=D2.call (Dw D2.fn T cQ);have bH:=D3.call (CJ D3.fn T bB);have cz:=D4.call (DC D4.fn T bH bB);have cP:=D7.call (EN lv D7.fn T cz);have iP:=D5.call (IS D5.fn T cz);have dw:B5 l.prog w K mg cg "BadWord" cZ 1 ["self","place"] _:=⟨_,_,T.gr,j6,BH (P:=l.prog) (w:=w) (base:=cg) D6.fn T,D6.bi⟩;have gv:=D8.iV (Kh lv D8.fn T cP iP dw);have bY:B5 l.prog w K mg cg "BadRow" eB 1 ["self","row","word"] _:=⟨_,_,T.kW,j33,Dj (P:=l.prog) (w:=w) (base:=cg) Cn.fn T,Cn.bi⟩;have bX:=TM.iV (Kf lv TM.fn T gv bY);exact bX⟩
  have fJ:=D40.call (Im D40.fn T cL cO);have dX:=D41.iV (GO (P:=l.prog) (w:=w) (base:=base) (iD:=iD) (iE:=iE) aaI jH (wO _ (by simp)) D41.fn T bI bX bB bH cy);have eS:=D42.iV (Hz (P:=l.prog) (w:=w) (base:=base) (iD:=iD) (iE:=iE) aaJ hd2 (wO _ (by simp)) D42.fn T bI bX fJ cy cL);have dM:=D43.iV (Iv D43.fn T bI bX dB bY);have gI:=D44.iV (JV (P:=l.prog) (w:=w) (base:=base) (iD:=iD) (iE:=iE) D44.fn T fj dX jt eS dM mq bY);have cT:=D45.call (Jj (P:=l.prog) (w:=w) (base:=base) D45.fn T);have fY:=D46.call (IJ D46.fn T cT);have gH:=D47.call (JT D47.fn T cI);have cF:=D48.call (J2 (P:=l.prog) (w:=w) (base:=base) D48.fn T);have dO:=D49.call (Ig D49.fn T cF cT);have c9:=D50.call (Jx D50.fn T cF ju);have iK:=D51.call (K9 D51.fn T cF fY);have iN:=D52.call (L7 D52.fn T dO c9 iK gH);have dD:=D53.call (Lr (P:=l.prog) (w:=w) (base:=base) (iD:=iD) (iE:=iE) D53.fn T gI gJ gK);have iM:=D54.call (Lz (P:=l.prog) (w:=w) (base:=base) D54.fn T);exact Wd D55.fn T iL gM bD iM iN (D0.call (GX (P:=l.prog) (w:=w) (base:=base) D0 T 4)) dD
  ⟩
theorem walk{l:Ay1}{d:DefRec}{K:Az9->aU}(hn:l.most=aS 63)(uz:d.params.defaults=[])
  (hY:∀(w:bg) (h:Heap),YP w h->(K w.params).In h)
  {ts:List Addr} (hnd:ts.Nodup)
  (hYt:∀(w:bg) (h:Heap),YP w h->∀P∈ts,h.get? P=aS (PySem.W.tabObj #[])) (hnt:∀w:bg,PySem.W.noTabs (K w.params)=true)
  (F:∀(w:bg) (mg:Str->Option Value) (fa:Addr) (h:Heap),(K w.params).In h->h.Ns Al3 mg->mg d.name=aS (.ref fa)->
   ∃fd:Am7,(∀(s:aT) (u:Value),AF2 s fd ⟨[u],[]⟩ [("_law_script",u)])/\(∀h':Heap,(K w.params).In h'->∀T∈ts,∃c,As4 h' c T)/\∀base:Heap,(K w.params).In base->base.Ns Al3 mg->(∀T∈ts,base.BuiltinsAt mg T)->bQ l.prog w (K w.params) mg base c6 134 fa fd ["_law_script"] (LQ (K w.params) ts)):
  PySem.W.WalkO q loose XP YP l.row.toRowW d [] (λf vs=>PySem.call f vs):=
 L2.qV (n:=63) (k:=134) (x:="_law_script") (CX:=λ_=>c6) (sp:=λw=>LQ (K w.params) ts) hn (by decide) uz ⟨rfl,by decide,by decide⟩ hY hYt hnt F (λ_ _ a ns hl _ hT hS=>⟨a,ns,rfl,hS,hl,hT,hnd,λ_=>rfl⟩) λ_ _ _ _ _ z=>z
end K06
end
open PySem PySem.W PyProof.Rows
set_option maxRecDepth 100000 in
set_option maxHeartbeats 0 in
theorem PySem.Challenge.cw_loomwright_k06_rows_refused_holds : PySem.Challenge.rw_loomwright_k06_rows_refused.Holds := by
 w_on
 refine PySem.W.holds_law K06.wR λaaW=>?_;refine PySem.W.holds_open (q:=K06.view) (loose:=[]) (Xt:=K06.Xt) (XP:=PySem.W.XL K06.view []) (Yf:=(Au2 K06.mF K06.addrs K06.gj K06.tabs).obs) (Ya:=(Au2 K06.mF K06.addrs K06.gj K06.tabs).val) (YP:=(Au2 K06.mF K06.addrs K06.gj K06.tabs).says) (N:=K06.fuel) K06.left (Au2 K06.mF K06.addrs K06.gj K06.tabs).of (Au2 K06.mF K06.addrs K06.gj K06.tabs).keeps (λs e=>PySem.W.xl_of s (Bool.and_eq_true_iff.mp e).1) PySem.W.XL.keeps (by rfl) (by rfl) (by rfl) (λs e=>PySem.W.recFacts_of (Bool.and_eq_true_iff.mp e).2) (by rfl) (by first | assumption | decide +kernel) (by first | k_qdec | decide +kernel) ⟨rfl,rfl,rfl,rfl,rfl,by decide +kernel⟩ ?hw ?hc
 (case hw=>w_witness2)
 k_fill
 refine K06.walk (l:=rWw) rfl rfl (λw h Y=>PySem.W.km_in_of Y) (by decide) (λw h Y=>PySem.W.km_tabs_of Y) (λw=>by kernel_rfl) ?F
 case F=>
  intro w mg fa h KX G xq;refine' K06.all_mk (iE:=356) (iD:=335) (zZ:=339) (z9:=358) KX G xq ?T ?_ ?_ ?_ ?_ ?_ ?_ ?_ ?_ ?_ ?_ ?_ ?_ ?_ ?_ ?_ ?_ ?_ ?_ ?_ ?_ ?_ ?_ ?_ ?_ ?_ ?_ ?_ ?_ ?_ ?_ ?_ ?_ ?_ ?_ ?_ ?_ ?_ ?_ ?_ ?_ ?_ ?_ ?_ ?_ ?_ ?_ ?_ ?_ ?_ ?_ ?_ ?_ ?_ ?_ ?_ ?_ ?_ ?_ ?_ ?_ ?_ ?_ ?_ rfl ?_ ?_ ?_ ?_
  case T=>
   intros
   constructor
   all_goals try dsimp only
   all_goals try ((with_reducible refine' AC7 KX G ?_);k_is)
   all_goals first
    | ((with_reducible refine' L2.mY (PySem.W.mg_none_of KX G ?_) ?_) <;> (repeat' first | (with_reducible exact L2.sj) | (with_reducible refine' L2.mY (PySem.W.mg_none_of KX G ?_) ?_) | k_is))
    | ((with_reducible first | refine' L2.yi (AC7 KX G ?_) | refine' L2.yj (AC7 KX G ?_)) <;> first | k_is | skip)
    | with_reducible assumption
    | (refine' ⟨⟨?_,?_,?_,?_⟩,?_,?_,?_,?_⟩ <;> k_is)
    | ((with_reducible refine' L2.yk (L2.qW ?_ ?_ ?_ ?_ ?_ ?_ ?_ ?_) ?_) <;> k_is)
    | ((with_reducible refine' L2.qW ?_ ?_ ?_ ?_ ?_ ?_ ?_ ?_) <;> k_is)
    | (refine' ⟨?_,?_,?_⟩ <;> first | k_is | kernel_rfl)
    | (unfold L2.cU;k_is)
    | k_is | k_exc | kts_exm | kit_is
  all_goals first
   | (refine' L2.vc (AC7 KX G ?_) (L2.qG ?_ ?_ ?_) ?_ <;> first | k_is | exact L2.xK λ_=>rfl | exact L2.xM λ_ _=>rfl | exact L2.xN λ_ _ _=>rfl | exact L2.xO λ_ _ _ _=>rfl | exact L2.xP λ_ _ _ _ _=>rfl | exact L2.uQ λ_ _ _ _ _ _=>rfl | exact L2.xQ λ_ _ _ _ _ _ _=>rfl | exact L2.xR λ_ _ _ _ _ _ _ _=>rfl | exact L2.xS λ_ _ _ _ _ _ _ _ _=>rfl | skip)
   | (refine' L2.vd (L2.qG ?_ ?_ ?_) ?_ <;> first | k_is | exact L2.xK λ_=>rfl | exact L2.xM λ_ _=>rfl | exact L2.xN λ_ _ _=>rfl | exact L2.xO λ_ _ _ _=>rfl | exact L2.xP λ_ _ _ _ _=>rfl | exact L2.uQ λ_ _ _ _ _ _=>rfl | exact L2.xQ λ_ _ _ _ _ _ _=>rfl | exact L2.xR λ_ _ _ _ _ _ _ _=>rfl | exact L2.xS λ_ _ _ _ _ _ _ _ _=>rfl | skip)
   | (refine' ⟨?_,?_,?_,?_⟩;all_goals first | k_is | kernel_rfl | skip)
   | (refine' ⟨?_,?_,?_⟩;all_goals first | k_is | kernel_rfl | skip)
   | k_is
   | exact λs u=> .of_eq rfl
   | rfl | kernel_rfl | exact Ab0 | decide | skip
