import PyProof.Rows.All
import Wide.All
import OpenK.AllK
import Wide.FinOn
import Lean
import PyProof.EqAt
import PyProof.EqKinds
import PyProof.TupleCall
import KE.KIntText
import PyProof.EnumFor
import PyProof.EnumMake
import PyProof.ZipIter
import PyProof.LayNew
import KE.KTurns
import PyProof.Rows.Range3
import KE.KRevSl
import KE.KDictList
import PyProof.Draws
import PyProof.Rows.RuleM_int
import PyProof.Rows.BitMore
import PyProof.NeKinds
import KE.KRevIter
import PyProof.JoinWalk
import KE.KDictSum
import KE.KSortTup
import KE.KTryMore
import PyProof.ExcArgs
import OpenK.KOwn
import PyProof.ExcBaseAll.ValueError
import KE.KLam
import KE.KNestM
import PyProof.Rows.SetFrom
import PyProof.AttrMissHeap
import KE.KDictOf
import PyProof.TupleKey
import PyProof.DictRoadsH
import PyProof.MeetsDict
import KE.KItemsList
import KE.KUnpack
import PyProof.SumAny
import PyProof.DictTruth
import PySem.Challenge.RW_loomwright_k28_taken_apart
set_option Elab.async false
set_option linter.all false
set_option maxRecDepth 100000
set_option genSizeOf false
set_option bootstrap.genMatcherCode false
set_option compiler.extract_closed false
set_option maxHeartbeats 4000000
noncomputable section
open List renaming getD_eq_getElem?_getD → Aa0, getElem?_eq_getElem → Aa1, length_map → Aa2, range → Aa5, getElem?_map → Aa8, length_append → Ab0, getElem?_eq_some_iff → Ab1, mem_map → Ab2, getElem?_append_left → Ab5, mem_singleton → Ab7, size_toArray → Ab8, mem_range → Ac0, mem_append_right → Ac1, mem_cons → Ac2, mem_append → Ac4, map_append → Ac5, getElem?_append_right → Ac6, mem_filter → Ac7, map_map → Ac8, mem_of_getElem? → Ad0, mem_cons_of_mem → Ad1, replicate → Ad5, filter_append → Ad6, length_range → Ad7, length_cons → Ad8, getElem_mem → Ad9, mem_cons_self → Ae1, filter_cons → Ae4, map_cons → Af0, append_assoc → Af1, take_length → Af2, length_singleton → Af3, mem_iff_getElem? → Af4, take_append_drop → Af5, map_congr_left → Af6, ext_getElem → Ag0, nodup_cons → Ag2, getElem?_concat_length → Ag4, length_take → Ag8, nodup_append → Ah0, foldl_cons → Ah2, getElem?_eq_none → Ah3, lookup_cons → Ah4, mem_append_left → Ah5, pairwise_append → Ah6, take_of_length_le → Ah7, append_nil → Ah8, filter_congr → Ai2, length_drop → Ai5, getElem?_range → Ai8, range_succ → Ai9, all_eq_true → Aj2, mem_of_mem_take → Aj5, flatten_cons → Aj7, find?_cons → Aj8, filter_eq_nil_iff → Aj9, pairwise_lt_range → Ak0
open PySem renaming wpAny_bind → Aa3, wpAny_pure → Aa7, wpAny_call_entry → Ag1, wpAny_newObj_type → Ag3, wpAny_mono → Ag6, wpAny_callSpecial?_slot → Ag7, wpAny_holding → Ah9, wpAny_truthy_bool → Ai0, wpAny_isInstance → Ai6, wpAny_dictEntries → Ai7, wpAny_typeNameOfWhole_itemiter → Aj0, wpAny_Call_Name_kw → Aj1, wpAny_typeNameOfWhole_keyiter → Aj3
open PySem.Heap renaming get?_push_of_some → Aa4, lt_size → Aa9, get?_push_size → Ab3, get?_update_other → Af7, get?_update_self → Ag5
open Nat renaming le_refl → Aa6, lt_of_lt_of_le → Ac3, ne_of_lt → Ac9, zero_le → Ad3, lt_or_ge → Ad4, le_trans → Ae0, add_sub_cancel → Ae3, lt_irrefl → Ae5, lt_trans → Ae6, lt_of_le_of_lt → Ae8, succ_le_succ → Af9, le_of_lt → Ai4, eq_of_testBit_eq → Aj4, ne_of_gt → Aj6
open Bool renaming false_ne_true → Ab4, false_eq_true → Ab9, eq_iff_iff → Ae2, and_eq_true → Ag9, false_and → Ai3
open Int renaming toNat_natCast → Ab6
open Array renaming length_toList → Ad2, toList_extract → Af8, getElem?_toList → Ai1
open Option renaming some → Ae7, map_some → Ae9, map_eq_some_iff → Ah1
namespace L2
open PySem
def A2 (s:Stmt) (j:Nat):Stmt:=match s with
  | .ClassDef _ _ _ body _ _ _ _ _ _ _=>body.getD j (.Pass ⟨0,0,0,0⟩)
  | _=> .Pass ⟨0,0,0,0⟩
def DE (s:Stmt):Arguments:=match s with
  | .FunctionDef _ a _ _ _ _ _ _ _ _=>a
  | _=>{ posonlyargs:=[],args:=[],vararg:=none,kwonlyargs:=[],kw_defaults:=[],kwarg:=none,defaults:=[] }
def CQ (s:Stmt):List Stmt:=match s with
  | .FunctionDef _ _ b _ _ _ _ _ _ _=>b
  | _=>[]
def Ai (s:Stmt):Scope:=match s with
  | .FunctionDef _ _ _ _ _ _ sc _ _ _=>sc
  | _=>{ kind:= .function,names:=[],isGenerator:=false,isCoroutine:=false }
end L2
namespace K28
open PySem
def top (i:Nat):Stmt:=PySem.Challenge.pw_loomwright_k28_taken_apart.main.body.getD i (.Pass ⟨0,0,0,0⟩)
end K28
namespace HX
open PySem PySem.W PySem.Calls PyProof.Rows
def topT (tb:String->Option Builtin) (p:Program) (w:World) (n₀:Nat) (ann:Option Value):Nat->SharedT->Thread->Option SharedT
  | 0,_,_=>none
  | n+1,s,t=>match through t with
    | true=>some s
    | false=>match stepOk n₀ ann t with
      | false=>none
      | true=>match stepT (denote tb) p w s t with
        | some (s',t')=>topT tb p w n₀ ann n s' t'
        | none=>none
theorem topT_of {tb:String->Option Builtin} {p:Program} {w:World} {n₀:Nat} {ann:Option Value}:∀ {n:Nat} {s s':SharedT} {t:Thread},topT tb p w n₀ ann n s t=some s'->topRun tb p w n₀ ann n s.abs t=some s'.abs
  | 0,_,_,_,h=>by cases h
  | n+1,s,s',t,h=>by
    unfold topT at h;unfold topRun;cases ht:through t with
    | true=>rw [ht] at h;cases h;rfl
    | false=>
      rw [ht] at h;cases hk:stepOk n₀ ann t with
      | false=>rw [hk] at h;cases h
      | true=>
        rw [hk] at h;cases hs:stepT (denote tb) p w s t with
        | none=>rw [hs] at h;cases h
        | some x=>
          obtain ⟨s2,t2⟩:=x;rw [hs] at h;dsimp only;rw [stepT_spec hs];exact topT_of h
def ofL:List Obj->Nat->BT->BT
  | [],_,t=>t
  | o::r,i,t=>ofL r (i+1) (t.ins i o)
def bootT (P:Params):BT:=ofL (boot_heap P).objs.toList 0 .nil
def fn0 (name qual:Str) (a:Arguments) (b:List Stmt) (sc:Scope):FuncData:=
  { name,qualname:=qual,params:=a,body:= .stmts b,scope:=sc,globals:=0,closure:=[],defaults:= .none,kwdefaults:= .none }
def goT (tb:String->Option Builtin) (p:Program) (w:World) (n₀:Nat) (ann:Option Value):Nat->SharedT->Thread->Option (SharedT × Thread)
  | 0,s,t=>some (s,t)
  | n+1,s,t=>match through t with
    | true=>none
    | false=>match stepOk n₀ ann t with
      | false=>none
      | true=>match stepT (denote tb) p w s t with
        | some (s',t')=>goT tb p w n₀ ann n s' t'
        | none=>none
theorem left_run {p q:Program} {loose:List Str} {Xt:Shared->Bool} {α:Type} {Yf:Shared->α} {Ya:World->α} {N:Nat} {g0:Bool}
    (e:opening p=plainProg p.main.scope.names) (hN:Nat.ble 600 N=true) (f:∀ s,fenceModules? p s=some s)
    (hb:∀ P:Params,(absHeap (bootT P) 11 {},boot_drawn,(boot_heap P).isNs mainGlobals,(boot_heap P).objs.size,(boot_heap P).nsMap mainGlobals "__annotations__")=(boot_heap P,boot_drawn,true,11,some (.ref 6)))
    (run:∀ (w:World) (os:OsState),∃ s:Shared,topRun treeTable p w 11 (some (.ref 6)) N (⟨bootT w.params,11,{},Array.mk [],boot_drawn,boot_toks,os⟩:SharedT).abs (topStub p)=some s/\((staticsOk (importedModules p.main.body) (boot_heap w.params) s.heap&&namesBound p s.heap&&gensDone s&&laidKept (boot_heap w.params) s.heap),openSeen q loose (importedModules p.main.body) Xt g0 s,Yf s)=(true,openGood q loose,Ya w)):LeftO p q loose Xt Yf Ya N g0:=λ w=>by
  obtain ⟨⟨h,gs,d,k,os⟩,e1,e'⟩:=Ah1.mp (boot_open (p:=p) (N:=N) e hN f w);obtain ⟨rfl,rfl,rfl,rfl⟩:h=boot_heap w.params/\gs=Array.mk []/\d=boot_drawn/\k=boot_toks:=by simpa using e'
  have hb':=hb w.params;simp only [Prod.mk.injEq] at hb';obtain ⟨b1,_,b2,b3,b4⟩:=hb';obtain ⟨s,r,l⟩:=run w os;obtain ⟨l1,l2,l3⟩:_/\_/\_:=by simpa only [Prod.mk.injEq] using l
  have b0:(⟨bootT w.params,11,{},Array.mk [],boot_drawn,boot_toks,os⟩:SharedT).abs=⟨boot_heap w.params,Array.mk [],boot_drawn,boot_toks,os⟩:=by
    show (⟨absHeap (bootT w.params) 11 {},_,_,_,_⟩:Shared)=_;rw [b1]
  rw [b0] at r;have t:topFrom treeTable p w N ⟨boot_heap w.params,Array.mk [],boot_drawn,boot_toks,os⟩=some s:=by
    unfold topFrom;dsimp only;rw [b2,b3,b4];show Option.bind (topRun treeTable p w 11 (some (.ref 6)) N ⟨boot_heap w.params,Array.mk [],boot_drawn,boot_toks,os⟩ (topStub p)) _=_;rw [r];show (match staticsOk (importedModules p.main.body) (boot_heap w.params) s.heap&&namesBound p s.heap&&gensDone s&&laidKept (boot_heap w.params) s.heap with | true=>_ | false=>_)=_;rw [l1]
  unfold openEnds;rw [e1];show (topFrom treeTable p w N _).map _=_;rw [t];exact congrArg some (Prod.ext l2 l3)
theorem three {α β γ:Type} {a a':α} {b b':β} {c c':γ} (h:(a,c)=(a',c')) (k:b=b'):(a,b,c)=(a',b',c'):=by
  cases h;cases k;rfl
theorem hb (P:Params):(absHeap (bootT P) 11 {},boot_drawn,(boot_heap P).isNs mainGlobals,(boot_heap P).objs.size,(boot_heap P).nsMap mainGlobals "__annotations__")=(boot_heap P,boot_drawn,true,11,some (.ref 6)):=by kernel_rfl
end HX
namespace K28
open PySem L2 PySem.W PySem.Calls PyProof.Rows
abbrev Ob:=Params->Obj
abbrev dE (P:Params) (s:Str) (t:Tok) (v:Value):DictEntry:=⟨PyData.keyHash P s, .str s t,v⟩
abbrev dR (P:Params) (s:Str) (t:Tok) (a:Addr):DictEntry:=⟨PyData.keyHash P s, .str s t, .ref a⟩
abbrev tu (xs:Array Value):Obj:=⟨.type "tuple",none, .seq xs 0, #[]⟩
abbrev di (es:Array DictEntry) (n:Nat):Obj:=⟨.type "dict",none, .dict es n, #[]⟩
abbrev f0 (n q:Str) (st:Stmt):FuncData:=HX.fn0 n q (DE st) (CQ st) (Ai st)
abbrev fo (n q:Str) (st:Stmt) (m:Str) (t:Tok) (c:Addr):Obj:=⟨.type "function",none, .func (fnOf n q (DE st) (CQ st) (Ai st) .none .none .none (.str m t) none (.ref c) .none), #[]⟩
abbrev co (n q:Str) (t:Tok) (l ac nl:Int) (a:Addr) (b:Bool) (r:Addr) (c d e:Value) (k:Int) (t4:Tok):Obj:=⟨.type "code",none, .fields #[.str n t, .str q (t+1), .str "/claim/cut.py" (t+2), .int l 0, .int ac 0, .int 0 0, .int 0 0, .int nl 0, .ref a, .bool b, .int 181 0, .ref r, .none,c,d,e, .int k 0, .int l 0, .str "/claim/cut.py" t4], #[]⟩
def o3:Ob:=λ P=>di #[dE P "__name__" 165 (.str "law_loomwright_k28_taken_apart" 496),dE P "__doc__" 166 .none,dE P "__package__" 167 .none,dE P "__loader__" 168 (.builtin "__main__.__loader__#opaque"),dE P "__spec__" 169 .none,dR P "__annotations__" 170 6,dR P "__builtins__" 171 4,dE P "__file__" 173 (.str "/claim/cut.py" 172),dE P "__cached__" 174 .none,dE P "MOST_ENDS" 188 (.int 60 187),dE P "MOST_PICKS" 190 (.int 60 189),dR P "LoomError" 210 24,dR P "BadCloth" 226 37,dR P "bit_of" 235 46,dR P "mask_of" 244 53,dR P "mask_to" 251 60,dR P "has_number" 259 67,dR P "numbers_of" 265 72,dR P "other_mask" 273 79,dR P "is_whole" 282 86,dR P "is_among" 291 93,dR P "need_cloth" 299 98,dR P "Cloth" 374 155,dE P "END" 378 (.str "end" 377),dE P "PICK" 380 (.str "pick" 379),dR P "end_threads" 386 164,dR P "pick_threads" 392 169,dR P "threads_of" 399 176,dR P "over_of" 407 183,dR P "overs_of" 416 190,dR P "threads_ahead" 429 197,dR P "lifted_layers" 442 204,dR P "is_next" 448 209,dR P "next_place" 457 216,dR P "layers_of" 469 223,dR P "numbers_in" 477 228,dR P "part_row" 483 233,dR P "part_of" 489 238,dR P "taken_apart" 495 243,dR P "_law_mixed" 505 250,dR P "_law_whole" 511 255,dR P "_law_up" 520 262,dR P "_law_levelled" 526 267,dR P "_law_part" 532 272,dR P "_law_told" 538 277,dR P "_law_threads" 544 282,dR P "_law_parted" 561 289,dR P "_law_numbers" 568 296,dR P "_law_levels_right" 574 301,dR P "_law_led" 580 306,dR P "_law_hangs" 588 313,dR P "_law_hanging" 594 318,dR P "law" 600 323] 53
def o15:Ob:=λ P=>tu #[(.type "ValueError")]
def o22:Ob:=λ P=>tu #[]
def o23:Ob:=λ P=>di #[dE P "__module__" 200 (.str "loomwright.errors" 191),dE P "__firstlineno__" 204 (.int 4 203),dR P "__static_attributes__" 205 22,dR P "__weakref__" 207 25,dE P "__doc__" 208 .none] 3
def o24:Ob:=λ P=>⟨(.type "type"),none,(.cls ⟨"LoomError",[(.type "ValueError")],[(.ref 24),(.type "ValueError"),(.type "Exception"),(.type "BaseException"),(.type "object")],23,"LoomError",true,[],[(.ref 37)],false,none,false⟩), #[(some (.ref 15)),none,(some (.str "LoomError" 193)),(some (.str "LoomError" 201)),(some (.builtin "ValueError.__new__")),(some (.bool true))]⟩
def o25:Ob:=λ P=>⟨(.type "getset_descriptor"),none,(.fields #[(.str "__weakref__" 206),(.ref 24),(.builtin "ExceptionGroup.__weakref__"), .none]), #[]⟩
def o28:Ob:=λ P=>tu #[(.ref 24)]
def o35:Ob:=λ P=>tu #[]
def o36:Ob:=λ P=>di #[dE P "__module__" 218 (.str "loomwright.errors" 191),dE P "__firstlineno__" 222 (.int 6 221),dR P "__static_attributes__" 223 35,dE P "__doc__" 224 .none] 2
def o37:Ob:=λ P=>⟨(.type "type"),none,(.cls ⟨"BadCloth",[(.ref 24)],[(.ref 37),(.ref 24),(.type "ValueError"),(.type "Exception"),(.type "BaseException"),(.type "object")],36,"BadCloth",true,[],[],false,none,false⟩), #[(some (.ref 28)),none,(some (.str "BadCloth" 211)),(some (.str "BadCloth" 219)),(some (.builtin "ValueError.__new__")),(some (.bool true))]⟩
def o40:Ob:=λ P=>tu #[]
def o42:Ob:=λ P=>tu #[(.str "number" 232)]
def o43:Ob:=λ P=>tu #[]
def o45:Ob:=λ P=>co "bit_of" "bit_of" 229 9 1 3 40 true 41 (.ref 42) (.ref 43) (.ref 44) 233 234
def o46:Ob:=λ P=>fo "bit_of" "bit_of" (top 6) "loomwright.masks" 227 45
def o47:Ob:=λ P=>tu #[]
def o49:Ob:=λ P=>tu #[(.str "numbers" 239),(.str "mask" 240),(.str "number" 241)]
def o50:Ob:=λ P=>tu #[]
def o52:Ob:=λ P=>co "mask_of" "mask_of" 236 11 1 3 47 true 48 (.ref 49) (.ref 50) (.ref 51) 242 243
def o53:Ob:=λ P=>fo "mask_of" "mask_of" (top 7) "loomwright.masks" 227 52
def o54:Ob:=λ P=>tu #[]
def o56:Ob:=λ P=>tu #[(.str "most" 248)]
def o57:Ob:=λ P=>tu #[]
def o59:Ob:=λ P=>co "mask_to" "mask_to" 245 16 1 3 54 true 55 (.ref 56) (.ref 57) (.ref 58) 249 250
def o60:Ob:=λ P=>fo "mask_to" "mask_to" (top 8) "loomwright.masks" 227 59
def o61:Ob:=λ P=>tu #[]
def o63:Ob:=λ P=>tu #[(.str "mask" 255),(.str "number" 256)]
def o64:Ob:=λ P=>tu #[]
def o66:Ob:=λ P=>co "has_number" "has_number" 252 18 2 3 61 true 62 (.ref 63) (.ref 64) (.ref 65) 257 258
def o67:Ob:=λ P=>fo "has_number" "has_number" (top 9) "loomwright.masks" 227 66
def o68:Ob:=λ P=>tu #[]
def o71:Ob:=λ P=>co "numbers_of" "numbers_of" 260 20 1 3 68 true 69 .none .none (.ref 70) 263 264
def o72:Ob:=λ P=>fo "numbers_of" "numbers_of" (top 10) "loomwright.masks" 227 71
def o73:Ob:=λ P=>tu #[]
def o75:Ob:=λ P=>tu #[(.str "mask" 269),(.str "most" 270)]
def o76:Ob:=λ P=>tu #[]
def o78:Ob:=λ P=>co "other_mask" "other_mask" 266 22 2 3 73 true 74 (.ref 75) (.ref 76) (.ref 77) 271 272
def o79:Ob:=λ P=>fo "other_mask" "other_mask" (top 11) "loomwright.masks" 227 78
def o80:Ob:=λ P=>tu #[]
def o82:Ob:=λ P=>tu #[(.str "thing" 279)]
def o83:Ob:=λ P=>tu #[]
def o85:Ob:=λ P=>co "is_whole" "is_whole" 276 25 1 3 80 true 81 (.ref 82) (.ref 83) (.ref 84) 280 281
def o86:Ob:=λ P=>fo "is_whole" "is_whole" (top 13) "loomwright.words" 274 85
def o87:Ob:=λ P=>tu #[]
def o89:Ob:=λ P=>tu #[(.str "thing" 286),(.str "least" 287),(.str "most" 288)]
def o90:Ob:=λ P=>tu #[]
def o92:Ob:=λ P=>co "is_among" "is_among" 283 27 3 3 87 true 88 (.ref 89) (.ref 90) (.ref 91) 289 290
def o93:Ob:=λ P=>fo "is_among" "is_among" (top 14) "loomwright.words" 274 92
def o94:Ob:=λ P=>tu #[]
def o97:Ob:=λ P=>co "need_cloth" "need_cloth" 294 30 2 3 94 true 95 .none .none (.ref 96) 297 298
def o98:Ob:=λ P=>fo "need_cloth" "need_cloth" (top 16) "loomwright.cloth" 292 97
def UA:Ob:=λ P=>tu #[]
def UD:Ob:=λ P=>tu #[(.str "self" 315),(.str "ends" 316),(.str "rows" 317)]
def Tj:Ob:=λ P=>tu #[]
def UJ:Ob:=λ P=>co "__init__" "Cloth.__init__" 312 39 3 3 106 true 107 (.ref 108) (.ref 109) (.ref 110) 318 319
def UT:Ob:=λ P=>fo "__init__" "Cloth.__init__" (A2 (top 17) 0) "loomwright.cloth" 292 111
def U4:Ob:=λ P=>tu #[]
def WH:Ob:=λ P=>tu #[(.str "self" 324)]
def Vq:Ob:=λ P=>tu #[]
def Vr:Ob:=λ P=>co "told" "Cloth.told" 321 44 1 3 113 true 114 (.ref 115) (.ref 116) (.ref 117) 325 326
def WW:Ob:=λ P=>fo "told" "Cloth.told" (A2 (top 17) 1) "loomwright.cloth" 292 118
def Ts:Ob:=λ P=>tu #[]
def TB:Ob:=λ P=>tu #[(.str "self" 331)]
def VW:Ob:=λ P=>tu #[]
def Vo:Ob:=λ P=>co "ends" "Cloth.ends" 328 47 1 3 120 true 121 (.ref 122) (.ref 123) (.ref 124) 332 333
def WN:Ob:=λ P=>fo "ends" "Cloth.ends" (A2 (top 17) 2) "loomwright.cloth" 292 125
def WR:Ob:=λ P=>tu #[]
def WX:Ob:=λ P=>tu #[(.str "self" 338)]
def VU:Ob:=λ P=>tu #[]
def Uu:Ob:=λ P=>co "picks" "Cloth.picks" 335 50 1 3 127 true 128 (.ref 129) (.ref 130) (.ref 131) 339 340
def VM:Ob:=λ P=>fo "picks" "Cloth.picks" (A2 (top 17) 3) "loomwright.cloth" 292 132
def Wr:Ob:=λ P=>tu #[]
def U3:Ob:=λ P=>tu #[(.str "self" 345),(.str "pick" 346)]
def Ub:Ob:=λ P=>tu #[]
def W2:Ob:=λ P=>co "row_at" "Cloth.row_at" 342 53 2 3 134 true 135 (.ref 136) (.ref 137) (.ref 138) 347 348
def Uc:Ob:=λ P=>fo "row_at" "Cloth.row_at" (A2 (top 17) 4) "loomwright.cloth" 292 139
def UM:Ob:=λ P=>tu #[]
def Wx:Ob:=λ P=>co "column_at" "Cloth.column_at" 350 56 2 3 141 true 142 .none .none (.ref 143) 353 354
def WU:Ob:=λ P=>fo "column_at" "Cloth.column_at" (A2 (top 17) 5) "loomwright.cloth" 292 144
def Tl:Ob:=λ P=>tu #[]
def Wb:Ob:=λ P=>tu #[(.str "self" 359),(.str "end" 360),(.str "pick" 361)]
def U6:Ob:=λ P=>tu #[]
def WF:Ob:=λ P=>co "is_up" "Cloth.is_up" 356 59 3 3 146 true 147 (.ref 148) (.ref 149) (.ref 150) 362 363
def Vu:Ob:=λ P=>fo "is_up" "Cloth.is_up" (A2 (top 17) 6) "loomwright.cloth" 292 151
def VN:Ob:=λ P=>tu #[(.str "rows" 365),(.str "width" 366)]
def UE:Ob:=λ P=>di #[dE P "__module__" 307 (.str "loomwright.cloth" 292),dE P "__firstlineno__" 311 (.int 37 310),dR P "__init__" 320 112,dR P "told" 327 119,dR P "ends" 334 126,dR P "picks" 341 133,dR P "row_at" 349 140,dR P "column_at" 355 145,dR P "is_up" 364 152,dR P "__static_attributes__" 367 153,dR P "__dict__" 369 156,dR P "__weakref__" 371 157,dE P "__doc__" 372 .none] 4
def Wg:Ob:=λ P=>⟨(.type "type"),none,(.cls ⟨"Cloth",[(.type "object")],[(.ref 155),(.type "object")],154,"Cloth",true,[],[],false,none,false⟩), #[none,none,(some (.str "Cloth" 300)),(some (.str "Cloth" 308)),(some (.builtin "object.__new__")),(some (.bool true))]⟩
def V8:Ob:=λ P=>⟨(.type "getset_descriptor"),none,(.fields #[(.str "__dict__" 368),(.ref 155),(.builtin "function.__dict__"),(.builtin "function.__dict__#set")]), #[]⟩
def Wp:Ob:=λ P=>⟨(.type "getset_descriptor"),none,(.fields #[(.str "__weakref__" 370),(.ref 155),(.builtin "ExceptionGroup.__weakref__"), .none]), #[]⟩
def U9:Ob:=λ P=>tu #[]
def WK:Ob:=λ P=>co "end_threads" "end_threads" 381 64 1 3 160 true 161 .none .none (.ref 162) 384 385
def UY:Ob:=λ P=>fo "end_threads" "end_threads" (top 21) "loomwright.hanging" 375 163
def Ws:Ob:=λ P=>tu #[]
def W1:Ob:=λ P=>co "pick_threads" "pick_threads" 387 66 1 3 165 true 166 .none .none (.ref 167) 390 391
def WE:Ob:=λ P=>fo "pick_threads" "pick_threads" (top 22) "loomwright.hanging" 375 168
def T7:Ob:=λ P=>tu #[]
def WL:Ob:=λ P=>tu #[(.str "cloth" 396)]
def W7:Ob:=λ P=>tu #[]
def US:Ob:=λ P=>co "threads_of" "threads_of" 393 68 1 3 170 true 171 (.ref 172) (.ref 173) (.ref 174) 397 398
def V7:Ob:=λ P=>fo "threads_of" "threads_of" (top 23) "loomwright.hanging" 375 175
def WM:Ob:=λ P=>tu #[]
def W4:Ob:=λ P=>tu #[(.str "cloth" 403),(.str "thread" 404)]
def V4:Ob:=λ P=>tu #[]
def Vh:Ob:=λ P=>co "over_of" "over_of" 400 70 2 3 177 true 178 (.ref 179) (.ref 180) (.ref 181) 405 406
def TV:Ob:=λ P=>fo "over_of" "over_of" (top 24) "loomwright.hanging" 375 182
def Vy:Ob:=λ P=>tu #[]
def Vi:Ob:=λ P=>tu #[(.str "cloth" 411),(.str "overs" 412),(.str "thread" 413)]
def UF:Ob:=λ P=>tu #[]
def Vd:Ob:=λ P=>co "overs_of" "overs_of" 408 74 1 3 184 true 185 (.ref 186) (.ref 187) (.ref 188) 414 415
def WB:Ob:=λ P=>fo "overs_of" "overs_of" (top 25) "loomwright.hanging" 375 189
def WS:Ob:=λ P=>tu #[]
def V6:Ob:=λ P=>tu #[(.str "overs" 420),(.str "one" 421),(.str "ahead" 422),(.str "met" 423),(.str "later" 424),(.str "thread" 425),(.str "upper" 426)]
def Vf:Ob:=λ P=>tu #[]
def UR:Ob:=λ P=>co "threads_ahead" "threads_ahead" 417 79 2 3 191 true 192 (.ref 193) (.ref 194) (.ref 195) 427 428
def VS:Ob:=λ P=>fo "threads_ahead" "threads_ahead" (top 26) "loomwright.hanging" 375 196
def Wz:Ob:=λ P=>tu #[]
def VT:Ob:=λ P=>tu #[(.str "cloth" 435),(.str "overs" 436),(.str "layers" 437),(.str "thread" 438),(.str "lifted" 439)]
def Tt:Ob:=λ P=>tu #[]
def TN:Ob:=λ P=>co "lifted_layers" "lifted_layers" 432 92 1 3 198 true 199 (.ref 200) (.ref 201) (.ref 202) 440 441
def U7:Ob:=λ P=>fo "lifted_layers" "lifted_layers" (top 28) "loomwright.layers" 430 203
def VQ:Ob:=λ P=>tu #[]
def VH:Ob:=λ P=>co "is_next" "is_next" 443 99 3 3 205 true 206 .none .none (.ref 207) 446 447
def WA:Ob:=λ P=>fo "is_next" "is_next" (top 29) "loomwright.layers" 430 208
def V2:Ob:=λ P=>tu #[]
def Vz:Ob:=λ P=>tu #[(.str "waiting" 452),(.str "told" 453),(.str "place" 454)]
def VJ:Ob:=λ P=>tu #[]
def W6:Ob:=λ P=>co "next_place" "next_place" 449 101 2 3 210 true 211 (.ref 212) (.ref 213) (.ref 214) 455 456
def VL:Ob:=λ P=>fo "next_place" "next_place" (top 30) "loomwright.layers" 430 215
def T5:Ob:=λ P=>tu #[]
def Vn:Ob:=λ P=>tu #[(.str "cloth" 461),(.str "waiting" 462),(.str "told" 463),(.str "layers" 464),(.str "layer" 465),(.str "thread" 466)]
def WO:Ob:=λ P=>tu #[]
def WZ:Ob:=λ P=>co "layers_of" "layers_of" 458 106 1 3 217 true 218 (.ref 219) (.ref 220) (.ref 221) 467 468
def Wk:Ob:=λ P=>fo "layers_of" "layers_of" (top 31) "loomwright.layers" 430 222
def TZ:Ob:=λ P=>tu #[]
def Wm:Ob:=λ P=>co "numbers_in" "numbers_in" 472 117 2 3 224 true 225 .none .none (.ref 226) 475 476
def Wf:Ob:=λ P=>fo "numbers_in" "numbers_in" (top 33) "loomwright.apart" 470 227
def UZ:Ob:=λ P=>tu #[]
def TH:Ob:=λ P=>co "part_row" "part_row" 478 119 3 3 229 true 230 .none .none (.ref 231) 481 482
def Wy:Ob:=λ P=>fo "part_row" "part_row" (top 34) "loomwright.apart" 470 232
def Uo:Ob:=λ P=>tu #[]
def T9:Ob:=λ P=>co "part_of" "part_of" 484 121 2 3 234 true 235 .none .none (.ref 236) 487 488
def VX:Ob:=λ P=>fo "part_of" "part_of" (top 35) "loomwright.apart" 470 237
def Xa:Ob:=λ P=>tu #[]
def WI:Ob:=λ P=>co "taken_apart" "taken_apart" 490 127 1 3 239 true 240 .none .none (.ref 241) 493 494
def V9:Ob:=λ P=>fo "taken_apart" "taken_apart" (top 36) "loomwright.apart" 470 242
def We:Ob:=λ P=>tu #[]
def Tw:Ob:=λ P=>tu #[(.str "_law_cell" 501),(.str "_law_k" 502)]
def Tr:Ob:=λ P=>tu #[]
def UK:Ob:=λ P=>co "_law_mixed" "_law_mixed" 498 130 2 3 244 true 245 (.ref 246) (.ref 247) (.ref 248) 503 504
def Tp:Ob:=λ P=>fo "_law_mixed" "_law_mixed" (top 38) "law_loomwright_k28_taken_apart" 496 249
def Tv:Ob:=λ P=>tu #[]
def VC:Ob:=λ P=>co "_law_whole" "_law_whole" 506 133 1 3 251 true 252 .none .none (.ref 253) 509 510
def Tz:Ob:=λ P=>fo "_law_whole" "_law_whole" (top 39) "law_loomwright_k28_taken_apart" 496 254
def Ve:Ob:=λ P=>tu #[]
def Wj:Ob:=λ P=>tu #[(.str "_law_rows" 515),(.str "_law_end" 516),(.str "_law_pick" 517)]
def Uy:Ob:=λ P=>tu #[]
def TD:Ob:=λ P=>co "_law_up" "_law_up" 512 135 3 3 256 true 257 (.ref 258) (.ref 259) (.ref 260) 518 519
def WG:Ob:=λ P=>fo "_law_up" "_law_up" (top 40) "law_loomwright_k28_taken_apart" 496 261
def W9:Ob:=λ P=>tu #[]
def Wi:Ob:=λ P=>co "_law_levelled" "_law_levelled" 521 137 2 3 263 true 264 .none .none (.ref 265) 524 525
def T3:Ob:=λ P=>fo "_law_levelled" "_law_levelled" (top 41) "law_loomwright_k28_taken_apart" 496 266
def UN:Ob:=λ P=>tu #[]
def VB:Ob:=λ P=>co "_law_part" "_law_part" 527 152 3 3 268 true 269 .none .none (.ref 270) 530 531
def VI:Ob:=λ P=>fo "_law_part" "_law_part" (top 42) "law_loomwright_k28_taken_apart" 496 271
def Vj:Ob:=λ P=>tu #[]
def Tn:Ob:=λ P=>co "_law_told" "_law_told" 533 159 1 3 273 true 274 .none .none (.ref 275) 536 537
def Vg:Ob:=λ P=>fo "_law_told" "_law_told" (top 43) "law_loomwright_k28_taken_apart" 496 276
def VA:Ob:=λ P=>tu #[]
def Ut:Ob:=λ P=>co "_law_threads" "_law_threads" 539 161 1 3 278 true 279 .none .none (.ref 280) 542 543
def V3:Ob:=λ P=>fo "_law_threads" "_law_threads" (top 44) "law_loomwright_k28_taken_apart" 496 281
def Tq:Ob:=λ P=>tu #[]
def WC:Ob:=λ P=>tu #[(.str "_law_rows" 548),(.str "_law_parts" 549),(.str "_law_place" 550),(.str "_law_number" 551),(.str "_law_ends" 552),(.str "_law_picks" 553),(.str "_law_cloth" 554),(.str "_law_end" 555),(.str "_law_pick" 556),(.str "_law_one" 557),(.str "_law_other" 558)]
def WP:Ob:=λ P=>tu #[]
def U0:Ob:=λ P=>co "_law_parted" "_law_parted" 545 163 2 3 283 true 284 (.ref 285) (.ref 286) (.ref 287) 559 560
def Ul:Ob:=λ P=>fo "_law_parted" "_law_parted" (top 45) "law_loomwright_k28_taken_apart" 496 288
def Wn:Ob:=λ P=>tu #[]
def Uw:Ob:=λ P=>tu #[(.str "_law_things" 565)]
def UP:Ob:=λ P=>tu #[]
def Wo:Ob:=λ P=>co "_law_numbers" "_law_numbers" 562 177 1 3 290 true 291 (.ref 292) (.ref 293) (.ref 294) 566 567
def Vx:Ob:=λ P=>fo "_law_numbers" "_law_numbers" (top 46) "law_loomwright_k28_taken_apart" 496 295
def Wc:Ob:=λ P=>tu #[]
def Ua:Ob:=λ P=>co "_law_levels_right" "_law_levels_right" 569 179 2 3 297 true 298 .none .none (.ref 299) 572 573
def To:Ob:=λ P=>fo "_law_levels_right" "_law_levels_right" (top 47) "law_loomwright_k28_taken_apart" 496 300
def WT:Ob:=λ P=>tu #[]
def Vb:Ob:=λ P=>co "_law_led" "_law_led" 575 199 3 3 302 true 303 .none .none (.ref 304) 578 579
def T4:Ob:=λ P=>fo "_law_led" "_law_led" (top 48) "law_loomwright_k28_taken_apart" 496 305
def UI:Ob:=λ P=>tu #[]
def TU:Ob:=λ P=>tu #[(.str "_law_wide" 584),(.str "_law_rows" 585)]
def UB:Ob:=λ P=>tu #[]
def Ur:Ob:=λ P=>co "_law_hangs" "_law_hangs" 581 212 2 3 307 true 308 (.ref 309) (.ref 310) (.ref 311) 586 587
def W3:Ob:=λ P=>fo "_law_hangs" "_law_hangs" (top 49) "law_loomwright_k28_taken_apart" 496 312
def Vl:Ob:=λ P=>tu #[]
def Wd:Ob:=λ P=>co "_law_hanging" "_law_hanging" 589 214 5 3 314 true 315 .none .none (.ref 316) 592 593
def WQ:Ob:=λ P=>fo "_law_hanging" "_law_hanging" (top 50) "law_loomwright_k28_taken_apart" 496 317
def Ue:Ob:=λ P=>tu #[]
def Vc:Ob:=λ P=>co "law" "law" 595 219 1 3 319 true 320 .none .none (.ref 321) 598 599
def Ud:Ob:=λ P=>fo "law" "law" (top 51) "law_loomwright_k28_taken_apart" 496 322
def Xr (P:Params):List Obj:=Vl P::Wd P::WQ P::Ue P::Vc P::Ud P::[]
def Xu (P:Params):List Obj:=Vx P::Wc P::Ua P::To P::WT P::Vb P::T4 P::UI P::TU P::UB P::Ur P::W3 P::Xr P
def Xf (P:Params):List Obj:=VA P::Ut P::V3 P::Tq P::WC P::WP P::U0 P::Ul P::Wn P::Uw P::UP P::Wo P::Xu P
def Xd (P:Params):List Obj:=Uy P::TD P::WG P::W9 P::Wi P::T3 P::UN P::VB P::VI P::Vj P::Tn P::Vg P::Xf P
def Xh (P:Params):List Obj:=WI P::V9 P::We P::Tw P::Tr P::UK P::Tp P::Tv P::VC P::Tz P::Ve P::Wj P::Xd P
def Xj (P:Params):List Obj:=WZ P::Wk P::TZ P::Wm P::Wf P::UZ P::TH P::Wy P::Uo P::T9 P::VX P::Xa P::Xh P
def Xm (P:Params):List Obj:=U7 P::VQ P::VH P::WA P::V2 P::Vz P::VJ P::W6 P::VL P::T5 P::Vn P::WO P::Xj P
def ob9 (P:Params):List Obj:=UF P::Vd P::WB P::WS P::V6 P::Vf P::UR P::VS P::Wz P::VT P::Tt P::TN P::Xm P
def ob8 (P:Params):List Obj:=T7 P::WL P::W7 P::US P::V7 P::WM P::W4 P::V4 P::Vh P::TV P::Vy P::Vi P::ob9 P
def ob7 (P:Params):List Obj:=Vu P::VN P::UE P::Wg P::V8 P::Wp P::U9 P::WK P::UY P::Ws P::W1 P::WE P::ob8 P
def ob6 (P:Params):List Obj:=Wr P::U3 P::Ub P::W2 P::Uc P::UM P::Wx P::WU P::Tl P::Wb P::U6 P::WF P::ob7 P
def ob5 (P:Params):List Obj:=Vr P::WW P::Ts P::TB P::VW P::Vo P::WN P::WR P::WX P::VU P::Uu P::VM P::ob6 P
def ob4 (P:Params):List Obj:=o93 P::o94 P::o97 P::o98 P::UA P::UD P::Tj P::UJ P::UT P::U4 P::WH P::Vq P::ob5 P
def ob3 (P:Params):List Obj:=o76 P::o78 P::o79 P::o80 P::o82 P::o83 P::o85 P::o86 P::o87 P::o89 P::o90 P::o92 P::ob4 P
def ob2 (P:Params):List Obj:=o59 P::o60 P::o61 P::o63 P::o64 P::o66 P::o67 P::o68 P::o71 P::o72 P::o73 P::o75 P::ob3 P
def ob1 (P:Params):List Obj:=o42 P::o43 P::o45 P::o46 P::o47 P::o49 P::o50 P::o52 P::o53 P::o54 P::o56 P::o57 P::ob2 P
def ob0 (P:Params):List Obj:=boot_o_2 P::o3 P::o15 P::o22 P::o23 P::o24 P::o25 P::o28 P::o35 P::o36 P::o37 P::o40 P::ob1 P
def frag (P:Params):Frag:=(nat_lit 2,boot_o_2 P)::(nat_lit 3,o3 P)::(nat_lit 15,o15 P)::(nat_lit 22,o22 P)::(nat_lit 23,o23 P)::(nat_lit 24,o24 P)::(nat_lit 25,o25 P)::(nat_lit 28,o28 P)::(nat_lit 35,o35 P)::(nat_lit 36,o36 P)::(nat_lit 37,o37 P)::(nat_lit 40,o40 P)::(nat_lit 42,o42 P)::(nat_lit 43,o43 P)::(nat_lit 45,o45 P)::(nat_lit 46,o46 P)::(nat_lit 47,o47 P)::(nat_lit 49,o49 P)::(nat_lit 50,o50 P)::(nat_lit 52,o52 P)::(nat_lit 53,o53 P)::(nat_lit 54,o54 P)::(nat_lit 56,o56 P)::(nat_lit 57,o57 P)::(nat_lit 59,o59 P)::(nat_lit 60,o60 P)::(nat_lit 61,o61 P)::(nat_lit 63,o63 P)::(nat_lit 64,o64 P)::(nat_lit 66,o66 P)::(nat_lit 67,o67 P)::(nat_lit 68,o68 P)::(nat_lit 71,o71 P)::(nat_lit 72,o72 P)::(nat_lit 73,o73 P)::(nat_lit 75,o75 P)::(nat_lit 76,o76 P)::(nat_lit 78,o78 P)::(nat_lit 79,o79 P)::(nat_lit 80,o80 P)::(nat_lit 82,o82 P)::(nat_lit 83,o83 P)::(nat_lit 85,o85 P)::(nat_lit 86,o86 P)::(nat_lit 87,o87 P)::(nat_lit 89,o89 P)::(nat_lit 90,o90 P)::(nat_lit 92,o92 P)::(nat_lit 93,o93 P)::(nat_lit 94,o94 P)::(nat_lit 97,o97 P)::(nat_lit 98,o98 P)::(nat_lit 106,UA P)::(nat_lit 108,UD P)::(nat_lit 109,Tj P)::(nat_lit 111,UJ P)::(nat_lit 112,UT P)::(nat_lit 113,U4 P)::(nat_lit 115,WH P)::(nat_lit 116,Vq P)::(nat_lit 118,Vr P)::(nat_lit 119,WW P)::(nat_lit 120,Ts P)::(nat_lit 122,TB P)::(nat_lit 123,VW P)::(nat_lit 125,Vo P)::(nat_lit 126,WN P)::(nat_lit 127,WR P)::(nat_lit 129,WX P)::(nat_lit 130,VU P)::(nat_lit 132,Uu P)::(nat_lit 133,VM P)::(nat_lit 134,Wr P)::(nat_lit 136,U3 P)::(nat_lit 137,Ub P)::(nat_lit 139,W2 P)::(nat_lit 140,Uc P)::(nat_lit 141,UM P)::(nat_lit 144,Wx P)::(nat_lit 145,WU P)::(nat_lit 146,Tl P)::(nat_lit 148,Wb P)::(nat_lit 149,U6 P)::(nat_lit 151,WF P)::(nat_lit 152,Vu P)::(nat_lit 153,VN P)::(nat_lit 154,UE P)::(nat_lit 155,Wg P)::(nat_lit 156,V8 P)::(nat_lit 157,Wp P)::(nat_lit 160,U9 P)::(nat_lit 163,WK P)::(nat_lit 164,UY P)::(nat_lit 165,Ws P)::(nat_lit 168,W1 P)::(nat_lit 169,WE P)::(nat_lit 170,T7 P)::(nat_lit 172,WL P)::(nat_lit 173,W7 P)::(nat_lit 175,US P)::(nat_lit 176,V7 P)::(nat_lit 177,WM P)::(nat_lit 179,W4 P)::(nat_lit 180,V4 P)::(nat_lit 182,Vh P)::(nat_lit 183,TV P)::(nat_lit 184,Vy P)::(nat_lit 186,Vi P)::(nat_lit 187,UF P)::(nat_lit 189,Vd P)::(nat_lit 190,WB P)::(nat_lit 191,WS P)::(nat_lit 193,V6 P)::(nat_lit 194,Vf P)::(nat_lit 196,UR P)::(nat_lit 197,VS P)::(nat_lit 198,Wz P)::(nat_lit 200,VT P)::(nat_lit 201,Tt P)::(nat_lit 203,TN P)::(nat_lit 204,U7 P)::(nat_lit 205,VQ P)::(nat_lit 208,VH P)::(nat_lit 209,WA P)::(nat_lit 210,V2 P)::(nat_lit 212,Vz P)::(nat_lit 213,VJ P)::(nat_lit 215,W6 P)::(nat_lit 216,VL P)::(nat_lit 217,T5 P)::(nat_lit 219,Vn P)::(nat_lit 220,WO P)::(nat_lit 222,WZ P)::(nat_lit 223,Wk P)::(nat_lit 224,TZ P)::(nat_lit 227,Wm P)::(nat_lit 228,Wf P)::(nat_lit 229,UZ P)::(nat_lit 232,TH P)::(nat_lit 233,Wy P)::(nat_lit 234,Uo P)::(nat_lit 237,T9 P)::(nat_lit 238,VX P)::(nat_lit 239,Xa P)::(nat_lit 242,WI P)::(nat_lit 243,V9 P)::(nat_lit 244,We P)::(nat_lit 246,Tw P)::(nat_lit 247,Tr P)::(nat_lit 249,UK P)::(nat_lit 250,Tp P)::(nat_lit 251,Tv P)::(nat_lit 254,VC P)::(nat_lit 255,Tz P)::(nat_lit 256,Ve P)::(nat_lit 258,Wj P)::(nat_lit 259,Uy P)::(nat_lit 261,TD P)::(nat_lit 262,WG P)::(nat_lit 263,W9 P)::(nat_lit 266,Wi P)::(nat_lit 267,T3 P)::(nat_lit 268,UN P)::(nat_lit 271,VB P)::(nat_lit 272,VI P)::(nat_lit 273,Vj P)::(nat_lit 276,Tn P)::(nat_lit 277,Vg P)::(nat_lit 278,VA P)::(nat_lit 281,Ut P)::(nat_lit 282,V3 P)::(nat_lit 283,Tq P)::(nat_lit 285,WC P)::(nat_lit 286,WP P)::(nat_lit 288,U0 P)::(nat_lit 289,Ul P)::(nat_lit 290,Wn P)::(nat_lit 292,Uw P)::(nat_lit 293,UP P)::(nat_lit 295,Wo P)::(nat_lit 296,Vx P)::(nat_lit 297,Wc P)::(nat_lit 300,Ua P)::(nat_lit 301,To P)::(nat_lit 302,WT P)::(nat_lit 305,Vb P)::(nat_lit 306,T4 P)::(nat_lit 307,UI P)::(nat_lit 309,TU P)::(nat_lit 310,UB P)::(nat_lit 312,Ur P)::(nat_lit 313,W3 P)::(nat_lit 314,Vl P)::(nat_lit 317,Wd P)::(nat_lit 318,WQ P)::(nat_lit 319,Ue P)::(nat_lit 322,Vc P)::(nat_lit 323,Ud P)::[]
def addrs:List Addr:=[2,3,15,22,23,24,25,28,35,36,37,40,42,43,45,46,47,49,50,52,53,54,56,57,59,60,61,63,64,66,67,68,71,72,73,75,76,78,79,80,82,83,85,86,87,89,90,92,93,94,97,98,106,108,109,111,112,113,115,116,118,119,120,122,123,125,126,127,129,130,132,133,134,136,137,139,140,141,144,145,146,148,149,151,152,153,154,155,156,157,160,163,164,165,168,169,170,172,173,175,176,177,179,180,182,183,184,186,187,189,190,191,193,194,196,197,198,200,201,203,204,205,208,209,210,212,213,215,216,217,219,220,222,223,224,227,228,229,232,233,234,237,238,239,242,243,244,246,247,249,250,251,254,255,256,258,259,261,262,263,266,267,268,271,272,273,276,277,278,281,282,283,285,286,288,289,290,292,293,295,296,297,300,301,302,305,306,307,309,310,312,313,314,317,318,319,322,323]
def fr0 (P:Params):Frag:=addrs.zip (ob0 P)
theorem PU (P:Params):frag P=fr0 P:=by kernel_rfl
def view:Program:={ PySem.Challenge.pw_loomwright_k28_taken_apart with main:={ PySem.Challenge.pw_loomwright_k28_taken_apart.main with body:=[top 0,top 1,top 3,top 4,top 6,top 7,top 8,top 9,top 10,top 11,top 13,top 14,top 16,top 17,top 19,top 20,top 21,top 22,top 23,top 24,top 25,top 26,top 28,top 29,top 30,top 31,top 33,top 34,top 35,top 36,top 38,top 39,top 40,top 41,top 42,top 43,top 44,top 45,top 46,top 47,top 48,top 49,top 50,top 51] } }
abbrev Xt:Shared->Bool:=λ s=>xlAt view [] s&&recOk (RowW.records PySem.Challenge.rw_loomwright_k28_taken_apart.row.toRowW) s
theorem addrs_eq:∀ P:Params,addrs=(frag P).map (·.1):=λ _=>by kernel_rfl
abbrev hook:Hook:=kHook frag addrs addrs_eq
abbrev fuel:Nat:=4078
def _root_.PySem.W.Fast.tw4897291733692640328:Program:=PySem.Challenge.pw_loomwright_k28_taken_apart
theorem _root_.PySem.W.Fast.te4897291733692640328:PySem.Challenge.pw_loomwright_k28_taken_apart=PySem.W.Fast.tw4897291733692640328:=rfl
theorem Wu:(λ _=>true) (HX.topT treeTable)=true:=by k_qdec
theorem Xs (w:World) (os:OsState):(HX.topT treeTable PySem.Challenge.pw_loomwright_k28_taken_apart w 11 (some (.ref 6)) fuel ⟨HX.bootT w.params,11,{},Array.mk [],boot_drawn,boot_toks,os⟩ (topStub PySem.Challenge.pw_loomwright_k28_taken_apart)).map (λ s=>((staticsOk (importedModules PySem.Challenge.pw_loomwright_k28_taken_apart.main.body) (boot_heap w.params) s.abs.heap&&namesBound PySem.Challenge.pw_loomwright_k28_taken_apart s.abs.heap&&gensDone s.abs&&laidKept (boot_heap w.params) s.abs.heap),addrs.map s.abs.heap.get?))=some (true,((fr0 w.params).map λ p=>some p.2)):=by
  have _tw:=Wu;rw [PySem.W.Fast.te5923862056798008813,PySem.W.Fast.te14364793385576792824,PySem.W.Fast.te9621378704136392807];kernel_rfl
theorem Xi (w:World) (os:OsState):(HX.topT treeTable PySem.Challenge.pw_loomwright_k28_taken_apart w 11 (some (.ref 6)) fuel ⟨HX.bootT w.params,11,{},Array.mk [],boot_drawn,boot_toks,os⟩ (topStub PySem.Challenge.pw_loomwright_k28_taken_apart)).map (λ s=>(openSeen view [] (importedModules PySem.Challenge.pw_loomwright_k28_taken_apart.main.body) Xt true s.abs))=some (openGood view []):=by
  unfold Xt;rw [PySem.W.Fast.te5923862056798008813,PySem.W.Fast.te4187177175401517315,PySem.W.Fast.te2368527892694137696,PySem.W.Fast.te14364793385576792824,PySem.W.Fast.te9621378704136392807];kernel_rfl
theorem left:LeftO PySem.Challenge.pw_loomwright_k28_taken_apart view [] Xt hook.obs hook.val fuel:=HX.left_run (by kernel_rfl) (by decide) (λ s=>by kernel_rfl) HX.hb λ w os=>by
  obtain ⟨s,r,l⟩:=Ah1.mp (Xs w os);obtain ⟨s2,r2,l2⟩:=Ah1.mp (Xi w os);cases r.symm.trans r2;rw [<-PU] at l;exact ⟨s.abs,HX.topT_of r,HX.three l l2⟩
end K28
namespace L2
open PySem PySem.Spec PyProof.Rows
abbrev Key:=Sum Int Str
def HB:Key->Value->Bool
  | .inl k,v=>Value.isInt k v
  | .inr x,v=>Value.isStrOf x v
def Xc (w:World):Key->Int
  | .inl k=>hashInt k
  | .inr x=>hashStr w x
theorem AS:∀ {k:Key} {v:Value},HB k v=true->(∃ i t,k=Sum.inl i/\v=Value.int i t)\/(∃ x t,k=Sum.inr x/\v=Value.str x t)
  | .inl i,v,h=>by
    obtain ⟨t,e⟩:=Value.isInt_shape (k:=i) (v:=v) h;exact .inl ⟨i,t,rfl,e⟩
  | .inr x,v,h=>by
    obtain ⟨t,e⟩:=Value.isStrOf_shape (x:=x) (v:=v) h;exact .inr ⟨x,t,rfl,e⟩
theorem MR (i:Int) (t:Tok):HB (.inl i) (.int i t)=true:=by simp [HB,Value.isInt]
theorem Mb (x:Str) (t:Tok):HB (.inr x) (.str x t)=true:=by simp [HB,Value.isStrOf]
theorem Ro (a b:Int):decide ((Sum.inl a:Key)=Sum.inl b)=(a == b):=by
  by_cases e:a=b
  · subst e;simp
  · have h:¬ (Sum.inl a:Key)=Sum.inl b:=λ q=>e (Sum.inl.inj q);rw [decide_eq_false h];exact (beq_eq_false_iff_ne.mpr e).symm
theorem Tg (a b:Str):decide ((Sum.inr a:Key)=Sum.inr b)=decide (a=b):=by
  by_cases e:a=b
  · subst e;simp
  · have h:¬ (Sum.inr a:Key)=Sum.inr b:=λ q=>e (Sum.inr.inj q);rw [decide_eq_false h,decide_eq_false e]
theorem Rt (a:Int) (b:Str):decide ((Sum.inl a:Key)=Sum.inr b)=false:=decide_eq_false (λ q=>nomatch q)
theorem SE (a:Str) (b:Int):decide ((Sum.inr a:Key)=Sum.inl b)=false:=decide_eq_false (λ q=>nomatch q)
def AF (prog:Program) (w:World):PySem.KeyKind prog w Key where
  is:=HB
  hash:=Xc w
  inj:=λ v a b ha hb=>by
    rcases AS ha with ⟨i,t,rfl,rfl⟩ | ⟨x,t,rfl,rfl⟩
    · rcases AS hb with ⟨j,u,rfl,e⟩ | ⟨y,u,rfl,e⟩
      · injection e with e1 _;rw [e1]
      · exact nomatch e
    · rcases AS hb with ⟨j,u,rfl,e⟩ | ⟨y,u,rfl,e⟩
      · exact nomatch e
      · injection e with e1 _;rw [e1]
  byValue:=λ k v h=>by
    rcases AS h with ⟨i,t,rfl,rfl⟩ | ⟨x,t,rfl,rfl⟩ <;> rfl
  pyHash:=λ hv h=>by
    rcases AS hv with ⟨i,t,rfl,rfl⟩ | ⟨x,t,rfl,rfl⟩
    · exact wpAny_pyHash_int h
    · exact wpAny_pyHash_str h
  eqBool:=λ hu hv h=>by
    rcases AS hu with ⟨i,t,rfl,rfl⟩ | ⟨x,t,rfl,rfl⟩
    · rcases AS hv with ⟨j,u,rfl,rfl⟩ | ⟨y,u,rfl,rfl⟩
      · rw [Ro] at h;exact wpAny_eqBool_int h
      · rw [Rt] at h;exact SeqAt.EqAt.int_str i t y u _ _ _ _ h
    · rcases AS hv with ⟨j,u,rfl,rfl⟩ | ⟨y,u,rfl,rfl⟩
      · rw [SE] at h;exact SeqAt.EqAt.str_int x t j u _ _ _ _ h
      · rw [Tg] at h;exact wpAny_eqBool_str h
  «strs» := λ k x t v h=>by
    rcases AS h with ⟨i,u,rfl,e⟩ | ⟨y,u,rfl,e⟩
    · exact nomatch e
    · injection e with e1 _;subst e1;cases v <;> rfl
theorem JB (prog:Program) (w:World) (i:Int) (t:Tok):(AF prog w).is (.inl i) (.int i t)=true:=MR i t
theorem Jy (prog:Program) (w:World) (x:Str) (t:Tok):(AF prog w).is (.inr x) (.str x t)=true:=Mb x t
inductive V where
  | non | bl (b:Bool) | int (i:Int) | str (x:Str) | byt (b:Array UInt8) | flt (b:UInt64) | ref (a:Addr) | ty (n:String)
  deriving DecidableEq
def RelV:V->Value->Prop
  | .non,u=>u=Value.none
  | .bl b,u=>u=Value.bool b
  | .int i,u=>∃ t,u=Value.int i t
  | .str x,u=>∃ t,u=Value.str x t
  | .byt b,u=>∃ t,u=Value.bytes b t
  | .flt b,u=>∃ t,u=Value.float b t
  | .ref a,u=>u=Value.ref a
  | .ty n,u=>u=Value.type n
abbrev Vals:List V->List Value->Prop:=Paired RelV
theorem Vals.length {xs:List V} {us:List Value} (r:Vals xs us):xs.length=us.length:=Paired.length r
theorem Vals.get:∀ {xs:List V} {us:List Value} {i:Nat} {x:V},Vals xs us->xs[i]?=some x->∃ u,us[i]?=some u/\RelV x u
  | _,_,_,_, .nil,e=>by simp at e
  | _,_,0,_, .cons r _,e=>by simp at e;subst e;exact ⟨_,rfl,r⟩
  | _,_,i+1,x, .cons _ t,e=>by
    obtain ⟨u,h1,h2⟩:=Vals.get (i:=i) (x:=x) t (by simpa using e);exact ⟨u,by simpa using h1,h2⟩
theorem Vals.set {x:V} {u:Value} (r:RelV x u):∀ {xs:List V} {us:List Value} (i:Nat),Vals xs us->Vals (xs.set i x) (us.set i u)
  | _,_,_, .nil=> .nil
  | _,_,0, .cons _ t=> .cons r t
  | _,_,i+1, .cons q t=> .cons q (Vals.set r i t)
theorem Vals.append:∀ {xs ys:List V} {us ws:List Value},Vals xs us->Vals ys ws->Vals (xs++ys) (us++ws)
  | _,_,_,_, .nil,s=>s
  | _,_,_,_, .cons r t,s=> .cons r (Vals.append t s)
theorem Vals.take:∀ {xs:List V} {us:List Value} (n:Nat),Vals xs us->Vals (xs.take n) (us.take n)
  | _,_,0,_=> .nil
  | _,_,_+1, .nil=> .nil
  | _,_,n+1, .cons r t=> .cons r (Vals.take n t)
theorem Vals.drop:∀ {xs:List V} {us:List Value} (n:Nat),Vals xs us->Vals (xs.drop n) (us.drop n)
  | _,_,0,r=>r
  | _,_,_+1, .nil=> .nil
  | _,_,n+1, .cons _ t=>Vals.drop n t
def RelO:Option V->Option Value->Prop
  | some v,some u=>RelV v u
  | none,none=>True
  | _,_=>False
def KV {κ:Type}:List (κ × V)->List (κ × Value)->Prop:=Paired λ (p:κ × V) (q:κ × Value)=>p.1=q.1/\RelV p.2 q.2
def kV:Key->V
  | .inl i=> .int i
  | .inr x=> .str x
inductive HO where
  | lst (xs:List V)
  | tup (xs:List V)
  | dK (kvs:List (Key × V)) | dT (kvs:List (List Key × V))
  | set (S:Int->Bool) (n:Nat)
  | ins (C dx:Addr) (fs:List (Str × V))
  | own (x:Addr)
  | xd (fs:List (Str × V))
  | met (f x:Addr)
  | rng (lo hi:Int)
  | frz (o:Obj) (u:HO)
  | tbl (ps:Array Value)
  | ext (φ:Heap->Prop)
abbrev Hp:=Addr->Option HO
def upd (H:Hp) (a:Addr) (o:HO):Hp:=λ b=>if b=a then some o else H b
theorem Ac {H:Hp} {a:Addr} {o:HO}:upd H a o a=some o:=by unfold upd;rw [if_pos rfl]
theorem Ak {H:Hp} {a b:Addr} {o:HO} (h:b≠a):upd H a o b=H b:=by unfold upd;rw [if_neg h]
theorem PZ {H:Hp} {a:Addr} {o u:HO}:upd (upd H a o) a u=upd H a u:=by
  funext b;unfold upd;split <;> rfl
theorem A3 {H:Hp} {a b:Addr} {o u:HO} (h:H a=some o) (h':H b=some u) (d:o≠u):a≠b:=by
  intro e;subst e;rw [h] at h';exact d (Ae7.inj h')
theorem Ap {H:Hp} {a b:Addr} {o:HO} (h:H a=some o) (h':H b=none):a≠b:=by
  intro e;subst e;rw [h] at h';cases h'
section
variable (P:Program) (w:World)
def ObjOk (H:Hp) (h:Heap) (a:Addr):HO->Prop
  | .lst xs=>xs.length<=sizeLine/\∃ (its:List Value) (n:Nat),Vals xs its/\h.get? a=some { cls:= .type "list",data:= .seq its.toArray n }
  | .tup xs=>xs.length<=sizeLine/\∃ its:List Value,Vals xs its/\IsTup h a its.toArray
  | .dK kvs=>kvs.length<=sizeLine/\(a == sysModules)=false/\∃ vs,KV kvs vs/\h.DictOf (AF P w) a vs
  | .dT kvs=>kvs.length<=sizeLine/\(a == sysModules)=false/\∃ xs:List (List Key × Addr × Value),
      Paired (λ (p:List Key × V) (q:List Key × Addr × Value)=>p.1=q.1/\H q.2.1=some (.tup (p.1.map kV))/\RelV p.2 q.2.2) kvs xs/\
      ∃ o es ep,h.get? a=some o/\o.ExactDict/\o.data= .dict es ep/\es.toList=xs.map (entryOfKey (tupleKind (AF P w)))/\(xs.map (·.1)).Nodup
  | .set S n=>h.SetOf (intKind P w) a S n
  | .ins C dx fs=>H dx=some (.own a)/\fs.length<=1000/\dx≠a/\h.get? a=some (PySem.W.instObj C dx)/\
      ∃ mA,h.Ns1 dx mA/\(∀ f,RelO (fs.lookup f) (mA f))/\PySem.Within mA (fs.map (·.1))
  | .own _=>∃ o,h.get? a=some o
  | .xd fs=>∃ mA,h.Ns1 a mA/\∀ f,RelO (fs.lookup f) (mA f)
  | .rng lo hi=>∃ t u v,h.get? a=some { cls:= .type "range",data:= .fields #[.int lo t, .int hi u, .int 1 v] }
  | .frz o u=>h.get? a=some o/\ObjOk H h a u
  | .tbl ps=>h.get? a=some { cls:= .none,data:= .fields ps }
  | .met f x=>h.get? a=some (PySem.W.methodObj (.ref f) (.ref x))
  | .ext φ=>φ h/\(∃ o,h.get? a=some o)/\∀ h1 h2:Heap,φ h1->(∀ o,h1.get? a=some o->h2.get? a=some o)->φ h2
def HOk (H:Hp) (h:Heap):Prop:=∀ a o,H a=some o->ObjOk P w H h a o
end
section
variable {P:Program} {w:World} {H H':Hp} {h h':Heap} {a:Addr} {o:HO}
theorem ObjOk.lt (x:ObjOk P w H h a o):a<h.objs.size:=by
  cases o with
  | lst xs=>obtain ⟨_,_,_,_,e⟩:=x;exact Aa9 e
  | tup xs=>obtain ⟨_,_,_,p⟩:=x;exact p.lt
  | dK kvs=>obtain ⟨_,_,_,_,o,_,_,e,_⟩:=x;exact Aa9 e
  | dT kvs=>obtain ⟨_,_,_,_,o,_,_,e,_⟩:=x;exact Aa9 e
  | set S n=>obtain ⟨o,_,_,_,e,_⟩:=x;exact Aa9 e
  | ins C dx fs=>obtain ⟨_,_,_,e,_⟩:=x;exact Aa9 e
  | own y=>obtain ⟨_,e⟩:=x;exact Aa9 e
  | xd fs=>obtain ⟨_,⟨_,_,_,e,_⟩,_⟩:=x;exact Aa9 e
  | rng lo hi=>obtain ⟨_,_,_,e⟩:=x;exact Aa9 e
  | frz ob u=>obtain ⟨e,_⟩:=x;exact Aa9 e
  | tbl ps=>exact Aa9 (show h.get? a=some _ from x)
  | met f y=>exact Aa9 (show h.get? a=some _ from x)
  | ext φ=>obtain ⟨_,⟨_,e⟩,_⟩:=x;exact Aa9 e
theorem Paired.mapP {α β:Type} {F G:α->β->Prop}:∀ {l₁:List α} {l₂:List β},Paired F l₁ l₂->(∀ a b,F a b->G a b)->Paired G l₁ l₂
  | _,_, .nil,_=> .nil
  | _,_, .cons r t,f=> .cons (f _ _ r) (Paired.mapP t f)
theorem ObjOk.stay (x:ObjOk P w H h a o) (k:∀ b u,(b=a\/H b=some (.own a))->h.get? b=some u->h'.get? b=some u)
    (ho:∀ b,H b=some (.own a)->H' b=some (.own a)) (ht:∀ b xs,H b=some (.tup xs)->H' b=some (.tup xs)):ObjOk P w H' h' a o:=by
  induction o with
  | lst xs=>obtain ⟨z,its,n,r,e⟩:=x;exact ⟨z,its,n,r,k _ _ (.inl rfl) e⟩
  | tup xs=>obtain ⟨z,its,r,ob,e,c⟩:=x;exact ⟨z,its,r,ob,k _ _ (.inl rfl) e,c⟩
  | dK kvs=>obtain ⟨z,y,vs,r,ob,es,ep,e,c⟩:=x;exact ⟨z,y,vs,r,ob,es,ep,k _ _ (.inl rfl) e,c⟩
  | dT kvs=>
    obtain ⟨z,y,xs,r,ob,es,ep,e,c⟩:=x;exact ⟨z,y,xs,Paired.mapP r λ p q z=>⟨z.1,ht _ _ z.2.1,z.2.2⟩,ob,es,ep,k _ _ (.inl rfl) e,c⟩
  | set S n=>obtain ⟨ob,es,ep,t,e,c⟩:=x;exact ⟨ob,es,ep,t,k _ _ (.inl rfl) e,c⟩
  | ins C dx fs=>
    obtain ⟨d,z,ne,e,mA,⟨od,es,ep,e2,c⟩,r⟩:=x;exact ⟨ho _ d,z,ne,k _ _ (.inl rfl) e,mA,⟨od,es,ep,k _ _ (.inr d) e2,c⟩,r⟩
  | own y=>obtain ⟨ob,e⟩:=x;exact ⟨ob,k _ _ (.inl rfl) e⟩
  | xd fs=>obtain ⟨mA,⟨od,es,ep,e,c⟩,r⟩:=x;exact ⟨mA,⟨od,es,ep,k _ _ (.inl rfl) e,c⟩,r⟩
  | rng lo hi=>obtain ⟨t,u,v,e⟩:=x;exact ⟨t,u,v,k _ _ (.inl rfl) e⟩
  | frz ob u ih=>obtain ⟨e,q⟩:=x;exact ⟨k _ _ (.inl rfl) e,ih q⟩
  | tbl ps=>
    have e:h.get? a=some { cls:= .none,data:= .fields ps }:=x;show h'.get? a=some { cls:= .none,data:= .fields ps };exact k a _ (.inl rfl) e
  | met f y=>
    have e:h.get? a=some (PySem.W.methodObj (.ref f) (.ref y)):=x;show h'.get? a=some (PySem.W.methodObj (.ref f) (.ref y));exact k a _ (.inl rfl) e
  | ext φ=>obtain ⟨p,⟨o,e⟩,st⟩:=x;exact ⟨st _ _ p λ o q=>k _ _ (.inl rfl) q,⟨o,k _ _ (.inl rfl) e⟩,st⟩
theorem HOk.lt (x:HOk P w H h) (e:H a=some o):a<h.objs.size:=(x a o e).lt
theorem HOk.fresh (x:HOk P w H h) (e:h.objs.size<=a):H a=none:=by
  cases q:H a with
  | none=>rfl
  | some u=>exact absurd (Ac3 (x.lt q) e) (Ae5 _)
theorem HOk.kept (x:HOk P w H h) (k:∀ b u,h.get? b=some u->h'.get? b=some u):HOk P w H h':=λ a o e=>
  (x a o e).stay (λ b u _ q=>k b u q) (λ _ q=>q) λ _ _ q=>q
theorem HOk.laid (x:HOk P w H h) (k:∀ b u,h.get? b=some u->h'.get? b=some u) (hp:h.objs.size<=a) (new:ObjOk P w (upd H a o) h' a o):HOk P w (upd H a o) h':=λ b u e=>by
  have hn:=x.fresh hp;by_cases hb:b=a
  · subst hb;rw [Ac] at e;cases e;exact new
  · rw [Ak hb] at e;exact (x b u e).stay (λ c v _ q=>k c v q) (λ c q=>by rw [Ak (Ap q hn)];exact q) λ c xs q=>by rw [Ak (Ap q hn)];exact q
end
def Rd (H:Hp) (a:Addr) (u:HO):Prop:=H a=some u\/∃ o,H a=some (.frz o u)
theorem Rd.of {H:Hp} {a:Addr} {u:HO} (h:H a=some u):Rd H a u:= .inl h
theorem Rd.ok {P:Program} {w:World} {H:Hp} {h:Heap} {a:Addr} {u:HO} (r:Rd H a u) (x:HOk P w H h):ObjOk P w H h a u:=by
  rcases r with r | ⟨o,r⟩
  · exact x a u r
  · obtain ⟨_,q⟩:=x a _ r;exact q
def Mut:Option HO->Prop
  | some (.lst _)=>True
  | some (.dK _)=>True
  | some (.dT _)=>True
  | some (.set _ _)=>True
  | some (.ins _ _ _)=>True
  | some (.ext _)=>True
  | _=>False
section
variable {P:Program} {w:World} {H:Hp} {h h':Heap} {x e:Addr} {o':HO}
theorem HOk.write (ok:HOk P w H h) (mu:Mut (H x)) (he:e=x\/H e=some (.own x)) (k:∀ b u,b≠e->h.get? b=some u->h'.get? b=some u) (heo:∃ u,h'.get? e=some u)
    (new:ObjOk P w (upd H x o') h' x o'):HOk P w (upd H x o') h':=λ b u q=>by
  have nown:∀ c y,H c=some (.own y)->c≠x:=λ c y r z=>by subst z;rw [r] at mu;exact mu
  have ntup:∀ c xs,H c=some (.tup xs)->c≠x:=λ c xs r z=>by subst z;rw [r] at mu;exact mu
  by_cases hb:b=x
  · subst hb;rw [Ac] at q;cases q;exact new
  · rw [Ak hb] at q;by_cases hbe:b=e
    · have q':H b=some (.own x):=by
        rcases he with z | z
        · exact absurd (hbe.trans z) hb
        · rw [hbe];exact z
      rw [q] at q';cases q';obtain ⟨v,hv⟩:=heo;exact ⟨v,by rw [hbe];exact hv⟩
    · refine (ok b u q).stay (λ c v hc r=>k c v ?_ r) (λ c r=>by rw [Ak (nown c b r)];exact r) λ c xs r=>by rw [Ak (ntup c xs r)];exact r
      rcases hc with rfl | hc
      · exact hbe
      · rintro rfl;rcases he with z | z
        · exact nown c b hc z
        · rw [hc] at z;cases z;exact hb rfl
end
structure Un (fs ex:List Addr) (H H':Hp) (h h':Heap):Prop where
  keep:∀ b o,h.get? b=some o->H b=none->b∉fs->b∉ex->h'.get? b=some o
  slot:∀ b o,h.get? b=some o->H b=none->b∈fs->b∉ex->∃ sl,h'.get? b=some { o with slots:=sl }
  free:∀ b o,h.get? b=some o->H b=none->b∉ex->H' b=none
  there:∀ b o,h.get? b=some o->b∉ex->∃ o',h'.get? b=some o'
  tups:∀ b xs,H b=some (.tup xs)->H' b=some (.tup xs)
  frzs:∀ b o u,H b=some (.frz o u)->H' b=some (.frz o u)
  tbls:∀ b ps,H b=some (.tbl ps)->∃ more,H' b=some (.tbl (ps++more))
section
variable {fs fs' ex ex':List Addr} {H H1 H2:Hp} {h h1 h2 h':Heap} {a x e:Addr} {o:HO}
theorem Un.any (u:Un fs ex H H1 h h1) {b:Addr} {ob:Obj} (q:h.get? b=some ob) (n:H b=none) (hx:b∉ex):∃ sl,h1.get? b=some { ob with slots:=sl }:=by
  by_cases hb:b∈fs
  · exact u.slot b ob q n hb hx
  · exact ⟨ob.slots,u.keep b ob q n hb hx⟩
theorem Un.kept (k:∀ b u,h.get? b=some u->h'.get? b=some u):Un fs ex H H h h':=
  ⟨λ b ob q _ _ _=>k b ob q,λ b ob q _ _ _=>⟨ob.slots,k b ob q⟩,λ _ _ _ n _=>n,λ b ob q _=>⟨ob,k b ob q⟩,λ _ _ q=>q,λ _ _ _ q=>q,λ _ ps q=>⟨#[],by rw [q];simp⟩⟩
theorem Un.refl:Un fs ex H H h h:=Un.kept λ _ _ q=>q
theorem Un.laid (k:∀ b u,h.get? b=some u->h'.get? b=some u) (hp:h.objs.size<=a) (hn:H a=none):Un fs ex H (upd H a o) h h' where
  keep:=λ b u q _ _ _=>k b u q
  slot:=λ b u q _ _ _=>⟨u.slots,k b u q⟩
  free:=λ b u q n _=>by rw [Ak (Ac9 (Ac3 (Aa9 q) hp))];exact n
  there:=λ b u q _=>⟨u,k b u q⟩
  tups:=λ b xs q=>by rw [Ak (Ap q hn)];exact q
  frzs:=λ b u xs q=>by rw [Ak (Ap q hn)];exact q
  tbls:=λ b ps q=>⟨#[],by rw [Ak (Ap q hn),q];simp⟩
theorem Un.write (mu:Mut (H x)) (he:e=x\/H e=some (.own x)) (k:∀ b u,b≠e->h.get? b=some u->h'.get? b=some u) (heo:∃ u,h'.get? e=some u):Un fs ex H (upd H x o) h h':=by
  have hx:∀ b,H b=none->b≠x:=λ b n z=>by subst z;rw [n] at mu;exact mu
  have hb:∀ b,H b=none->b≠e:=λ b n z=>by
    subst z;rcases he with r | r
    · exact hx b n r
    · rw [n] at r;cases r
  have hm:∀ b u,H b=some u->¬ Mut (some u)->b≠x:=λ b u q nm z=>by subst z;rw [q] at mu;exact nm mu
  refine ⟨λ b u q n _ _=>k b u (hb b n) q,λ b u q n _ _=>⟨u.slots,k b u (hb b n) q⟩,λ b u q n _=>by rw [Ak (hx b n)];exact n,λ b u q _=> ?_,
    λ b xs q=>by rw [Ak (hm b _ q λ z=>z)];exact q,λ b u xs q=>by rw [Ak (hm b _ q λ z=>z)];exact q,λ b ps q=>⟨#[],by rw [Ak (hm b _ q λ z=>z),q];simp⟩⟩
  by_cases hbe:b=e
  · subst hbe;exact heo
  · exact ⟨u,k b u hbe q⟩
end
def trk (h:Heap) (H:Hp):List Addr:=(Aa5 h.objs.size).filter λ a=>(H a).isSome
def ID (h:Heap) (H:Hp):Heap:=PySem.W.hideAll h (trk h H)
theorem L7 (h:Heap) (H:Hp):(ID h H).objs.size=h.objs.size:=PySem.W.hideAll_size _ _
theorem Np {h:Heap} {H:Hp} {b:Addr} {o:Obj} (e:h.get? b=some o) (n:H b=none):(ID h H).get? b=some o:=
  PySem.W.hideAll_get _ e λ hm=>by
    have q:(H b).isSome=true:=(Ac7.mp hm).2;rw [n] at q;simp at q
theorem O1 {h:Heap} {H:Hp} {b:Addr} {o:Obj} (e:(ID h H).get? b=some o):h.get? b=some o/\H b=none:=by
  have e':h.get? b=some o:=PySem.W.of_hideAll (trk h H) e;refine ⟨e',?_⟩;cases q:H b with
  | none=>rfl
  | some x=>
    have hm:b∈trk h H:=Ac7.mpr ⟨Ac0.mpr (Aa9 e'),by simp [q]⟩;have z:(ID h H).get? b=none:=PySem.W.hideAll_none (trk h H) hm;rw [z] at e;cases e
def Pj (g h:Heap) (L:Addr):List (Addr × Obj):=(Aa5 h.objs.size).filterMap λ a=>if a=L\/(g.get? a).isSome=true then none else (h.get? a).map λ o=>(a,o)
def Bm (g h:Heap) (L d:Addr):List (Addr × Obj):=(Pj g h L).filter λ p=>decide (p.1≠d)
structure Mod (K:PySem.W.Frag) (mg:Str->Option Value) (base:Heap):Prop where
  kin:K.In base
  glob:base.Ns mainGlobals mg
  blt:∃ mb,base.Ns builtinsNs mb/\∀ x:Str,x≠"__name__"->mb x=bootBuiltins x
  nolimit:base.NoLimit
structure Cx where
  prog:Program
  w:World
  K:PySem.W.Frag
  mg:Str->Option Value
  base:Heap
  A:Around
  N:List Str
  s₀:Shared
  H₀:Hp
  env:Env
  outer:List Env
  stack:List Env
  ex:List Addr
  fn:Str->Bool
  calm:Bool
  pn:List (Addr × Obj)
  xe:Value->Shared->Prop
def frs (l:List Env):List Addr:=l.filterMap (·.frame)
abbrev Cx.fs (X:Cx):List Addr:=frs X.outer
def Vis (sc:Scope) (x:Str):Prop:=sc.names.lookup x=some .local\/sc.names.lookup x=some .cell\/sc.names.lookup x=some .free
def Loc (sc:Scope) (x:Str):Prop:=sc.names.lookup x=some .local\/sc.names.lookup x=some .cell
def Xv (env:Env) (h:Heap) (m:Str->Option Value) (x:Str) (u:Value):Prop:=
  (env.kindOf x=some .local/\m x=some u)\/((env.kindOf x=some .cell\/env.kindOf x=some .free)/\∃ c,env.cells.lookup x=some c/\h.IsCell c (some u))
structure Cx.Ok (X:Cx):Prop where
  mod:Mod X.K X.mg X.base
  kind:X.env.scope.kind= .function
  glob:X.env.globals=mainGlobals
  blt:X.env.builtins=builtinsNs
  above:X.s₀.heap.objs.size<=X.env.locals
  inj:∀ x y c,X.env.cells.lookup x=some c->X.env.cells.lookup y=some c->x=y
  has:∀ x,(X.env.kindOf x=some .cell\/X.env.kindOf x=some .free)->∃ c,X.env.cells.lookup x=some c
  cab:∀ x c,X.fn x=true->X.env.cells.lookup x=some c->X.s₀.heap.objs.size<=c
  hd:X.calm=true->X.A.handled=none
  frames:X.A.frames=some X.stack
  stk:X.stack=X.outer\/(X.stack=X.env::X.outer/\X.env.frame=some X.env.locals)
  exf:∀ b∈X.ex,b≠X.env.locals/\∀ x c,X.env.cells.lookup x=some c->c≠b
  bs:∀ b o,X.base.get? b=some o->X.s₀.heap.get? b=some o/\X.H₀ b=none
  bsz:X.base.objs.size<=X.s₀.heap.objs.size
  noex:∀ b o,X.base.get? b=some o->b∉X.ex
  exfs:∀ b∈X.ex,b∉X.fs
  funs:X.s₀.heap.FunFrames X.base X.outer
  frf:∀ b∈X.fs,X.H₀ b=none
structure Inv (X:Cx) (pins:List (Addr × Obj)) (σ:List (Option V)) (H:Hp) (s:Shared):Prop where
  ok:X.Ok
  os:s.os=X.s₀.os
  bare:AllBare s.gens
  base:Un X.fs X.ex X.H₀ H X.s₀.heap s.heap
  loc:∃ m,s.heap.Ns X.env.locals m/\∀ (i:Nat) (x:Str) (v:V),X.N[i]?=some x->σ[i]?=some (some v)->Vis X.env.scope x->∃ u,RelV v u/\Xv X.env s.heap m x u
  cell:∀ x c,X.env.cells.lookup x=some c->∃ v,s.heap.IsCell c v
  free:H X.env.locals=none
  freeC:∀ x c,X.env.cells.lookup x=some c->H c=none
  pin:∀ p∈X.pn++pins,s.heap.get? p.1=some p.2/\H p.1=none/\p.1≠X.env.locals/\p.1∉X.fs/\∀ v,p.2.data≠ .cell v
  hok:HOk X.prog X.w H s.heap
  len:σ.length=X.N.length
section
variable {X:Cx} {pins:List (Addr × Obj)} {σ:List (Option V)} {H H':Hp} {s:Shared} {h':Heap}
theorem Cx.Ok.nofr (ok:X.Ok) {b:Addr} {o:Obj} (e:X.base.get? b=some o):b∉X.fs:=λ hb=>by
  have:=(ok.funs.mem hb).1;rw [e] at this;cases this
theorem Inv.bs (I:Inv X pins σ H s):∀ b o,X.base.get? b=some o->s.heap.get? b=some o/\H b=none:=λ b o e=>
  ⟨I.base.keep b o (I.ok.bs b o e).1 (I.ok.bs b o e).2 (I.ok.nofr e) (I.ok.noex b o e),I.base.free b o (I.ok.bs b o e).1 (I.ok.bs b o e).2 (I.ok.noex b o e)⟩
theorem Inv.bk (I:Inv X pins σ H s):∀ b o,X.base.get? b=some o->s.heap.get? b=some o:=λ b o e=>(I.bs b o e).1
theorem Inv.mod (I:Inv X pins σ H s):Mod X.K X.mg X.base:=I.ok.mod
theorem Inv.kIn (I:Inv X pins σ H s):X.K.In s.heap:=I.ok.mod.kin.keeps I.bk
theorem Inv.fr (I:Inv X pins σ H s):∃ m,Fr X.base X.env.locals s.heap m:=
  let ⟨m,hn,_⟩:=I.loc
  ⟨m,hn,I.bk,Ae0 I.ok.bsz I.ok.above⟩
theorem Inv.lt (I:Inv X pins σ H s):X.env.locals<s.heap.objs.size:=let ⟨_,hn,_⟩:=I.loc;hn.lt
theorem Inv.sz (I:Inv X pins σ H s):X.s₀.heap.objs.size<=s.heap.objs.size:=Ae0 I.ok.above (Ai4 I.lt)
theorem Inv.nofs (I:Inv X pins σ H s) {a:Addr} (h:s.heap.objs.size<=a):a∉X.fs:=λ hb=>by
  obtain ⟨_,o,ho,_⟩:=I.ok.funs.mem hb;exact absurd (Ac3 (Aa9 ho) (Ae0 I.sz h)) (Ae5 _)
theorem Inv.cne (I:Inv X pins σ H s):∀ x c,X.env.cells.lookup x=some c->c≠X.env.locals:=λ x c e z=>by
  obtain ⟨v,o,ho,hd⟩:=I.cell x c e;obtain ⟨m,⟨o',es,ep,ho',hd',_⟩,_⟩:=I.loc;rw [z,ho'] at ho;cases ho;rw [hd'] at hd;cases hd
theorem Inv.funs (I:Inv X pins σ H s):s.heap.FunFrames X.base X.outer:=by
  have all:∀ (l:List Env),(∀ b∈frs l,b∈X.fs)->X.s₀.heap.FunFrames X.base l->s.heap.FunFrames X.base l:=by
    intro l
    induction l with
    | nil=>intro _ _;trivial
    | cons env r ih=>
      intro hs hl;obtain ⟨hk,⟨L,o,hf,hn,ho,hd⟩,hr⟩:=hl;have hL:L∈X.fs:=hs L (by unfold frs;rw [List.filterMap_cons,hf];exact Ae1);obtain ⟨sl,e⟩:=I.base.slot L o ho (I.ok.frf L hL) hL λ z=>I.ok.exfs L z hL;exact ⟨hk,⟨L,_,hf,hn,e,hd⟩,ih (λ b hb=>hs b (by unfold frs;rw [List.filterMap_cons,hf];exact Ad1 _ hb)) hr⟩
  exact all X.outer (λ _ hb=>hb) I.ok.funs
theorem Inv.stack (I:Inv X pins σ H s):s.heap.FunFrames X.base X.stack:=by
  rcases I.ok.stk with e | ⟨e,hf⟩
  · rw [e];exact I.funs
  · rw [e];obtain ⟨m,hn,_⟩:=I.loc;refine .cons (by rw [I.ok.kind];decide) hf hn ?_ I.funs;exact Heap.get?_none_of_le (Ae0 I.ok.bsz I.ok.above)
theorem Inv.stkSub (I:Inv X pins σ H s):∀ b∈frs X.stack,b∈X.env.locals::X.fs:=λ b hb=>by
  rcases I.ok.stk with e | ⟨e,hf⟩
  · rw [e] at hb;exact Ad1 _ hb
  · rw [e] at hb;unfold frs at hb;rw [List.filterMap_cons,hf] at hb;exact hb
theorem Inv.stkFree (I:Inv X pins σ H s):∀ b∈frs X.stack,H b=none:=λ b hb=>by
  rcases Ac2.mp (I.stkSub b hb) with e | hb
  · rw [e];exact I.free
  · obtain ⟨_,o,ho,_⟩:=I.ok.funs.mem hb;exact I.base.free b o ho (I.ok.frf b hb) λ z=>I.ok.exfs b z hb
theorem Inv.step {g':Array GenState} {t':Nat} {d':Drawn} {ch:List Addr} (I:Inv X pins σ H s)
    (hch:∀ b∈ch,(b∈X.ex\/X.s₀.heap.objs.size<=b)/\b≠X.env.locals/\(∀ x c,X.env.cells.lookup x=some c->c≠b)/\∀ p∈X.pn++pins,p.1≠b)
    (keep:∀ b o,b≠X.env.locals->b∉X.fs->b∉ch->s.heap.get? b=some o->H b=none->h'.get? b=some o)
    (slot:∀ b o,b≠X.env.locals->b∈X.fs->b∉ch->s.heap.get? b=some o->H b=none->∃ sl,h'.get? b=some { o with slots:=sl }) (free:∀ b o,b∉ch->s.heap.get? b=some o->H b=none->H' b=none)
    (there:∀ b o,b∉ch->s.heap.get? b=some o->∃ o',h'.get? b=some o')
    (tups:∀ b xs,H b=some (.tup xs)->H' b=some (.tup xs)) (frzs:∀ b o u,H b=some (.frz o u)->H' b=some (.frz o u)) (tbls:∀ b ps,H b=some (.tbl ps)->∃ more,H' b=some (.tbl (ps++more)))
    (ns:∀ m,s.heap.Ns X.env.locals m->h'.Ns X.env.locals m) (hok:HOk X.prog X.w H' h') (hg:AllBare g'):
    Inv X pins σ H' { s with heap:=h',gens:=g',drawn:=d',toks:=t' }:=by
  have neL:∀ b o,X.s₀.heap.get? b=some o->b≠X.env.locals:=λ b o e=>Ac9 (Ac3 (Aa9 e) I.ok.above);have neC:∀ b o,X.s₀.heap.get? b=some o->b∉X.ex->b∉ch:=λ b o e hx hb=>by
    rcases (hch b hb).1 with z | z
    · exact hx z
    · exact absurd (Ac3 (Aa9 e) z) (Ae5 _)
  have cellK:∀ x c,X.env.cells.lookup x=some c->∀ v,s.heap.IsCell c v->h'.IsCell c v:=λ x c e v ⟨o,ho,hd⟩=>by
    have nch:c∉ch:=λ z=>(hch c z).2.2.1 x c e rfl;by_cases hc:c∈X.fs
    · obtain ⟨sl,q⟩:=slot c o (I.cne x c e) hc nch ho (I.freeC x c e);exact ⟨_,q,hd⟩
    · exact ⟨o,keep c o (I.cne x c e) hc nch ho (I.freeC x c e),hd⟩
  refine ⟨I.ok,I.os,hg,⟨λ b o e n hb hx=> ?_,λ b o e n hb hx=> ?_,λ b o e n hx=> ?_,λ b o e hx=> ?_,λ b xs e=>tups b xs (I.base.tups b xs e),λ b o xs e=>frzs b o xs (I.base.frzs b o xs e),λ b ps e=> ?_⟩,?_,λ x c e=> ?_,?_,λ x c e=> ?_,λ p hp=> ?_,hok,I.len⟩
  · exact keep b o (neL b o e) hb (neC b o e hx) (I.base.keep b o e n hb hx) (I.base.free b o e n hx)
  · obtain ⟨sl,e1⟩:=I.base.slot b o e n hb hx;obtain ⟨sl',e2⟩:=slot b _ (neL b o e) hb (neC b o e hx) e1 (I.base.free b o e n hx);exact ⟨sl',e2⟩
  · obtain ⟨o',e1⟩:=I.base.there b o e hx;exact free b o' (neC b o e hx) e1 (I.base.free b o e n hx)
  · obtain ⟨o',e1⟩:=I.base.there b o e hx;exact there b o' (neC b o e hx) e1
  · obtain ⟨m1,e1⟩:=I.base.tbls b ps e;obtain ⟨m2,e2⟩:=tbls b _ e1;exact ⟨m1++m2,by rw [e2,Array.append_assoc]⟩
  · obtain ⟨m,hn,hl⟩:=I.loc;refine ⟨m,ns m hn,λ i x v e1 e2 e3=> ?_⟩;obtain ⟨u,r,l⟩:=hl i x v e1 e2 e3;refine ⟨u,r,?_⟩;rcases l with l | ⟨k,c,e,z⟩
    · exact .inl l
    · exact .inr ⟨k,c,e,cellK x c e _ z⟩
  · obtain ⟨v,z⟩:=I.cell x c e;exact ⟨v,cellK x c e v z⟩
  · obtain ⟨m,⟨o,_,_,ho,_⟩,_⟩:=I.loc;exact free _ o (λ z=>(hch _ z).2.1 rfl) ho I.free
  · obtain ⟨v,o,ho,hd⟩:=I.cell x c e;exact free c o (λ z=>(hch c z).2.2.1 x c e rfl) ho (I.freeC x c e)
  · obtain ⟨e,n,ne,nf,d⟩:=I.pin p hp;have nch:p.1∉ch:=λ z=>(hch p.1 z).2.2.2 p hp rfl;exact ⟨keep p.1 p.2 ne nf nch e n,free p.1 p.2 nch e n,ne,nf,d⟩
theorem Inv.un {t':Nat} (I:Inv X pins σ H s) (u:Un X.fs [] H H' s.heap h') (hok:HOk X.prog X.w H' h'):Inv X pins σ H' { s with heap:=h',toks:=t' }:=by
  obtain ⟨m,⟨o,es,ep,ho,r⟩,_⟩:=id I.loc;obtain ⟨sl,hL⟩:=u.any ho I.free (by simp);exact I.step (g':=s.gens) (d':=s.drawn) (ch:=[]) (λ _ z=>nomatch z) (λ b o _ hb _ e n=>u.keep b o e n hb (by simp)) (λ b o _ hb _ e n=>u.slot b o e n hb (by simp)) (λ b o _ e n=>u.free b o e n (by simp)) (λ b o _ e=>u.there b o e (by simp)) u.tups u.frzs u.tbls (λ m' hm=>by
    obtain ⟨o',es',ep',ho',r'⟩:=hm;rw [ho] at ho';cases ho';exact ⟨_,es',ep',hL,r'⟩) hok I.bare
theorem Inv.call {g':Array GenState} {t':Nat} {d':Drawn} {ch:List Addr} (I:Inv X pins σ H s) (u:Un (frs X.stack) ch H H' s.heap h') (hok:HOk X.prog X.w H' h') (hg:AllBare g')
    (hch:∀ b∈ch,(b∈X.ex\/X.s₀.heap.objs.size<=b)/\b≠X.env.locals/\(∀ x c,X.env.cells.lookup x=some c->c≠b)/\∀ p∈X.pn++pins,p.1≠b):
    Inv X pins σ H' { s with heap:=h',gens:=g',drawn:=d',toks:=t' }:=by
  obtain ⟨m,⟨o,es,ep,ho,r⟩,_⟩:=id I.loc;obtain ⟨sl,hL⟩:=u.any ho I.free λ z=>(hch _ z).2.1 rfl;exact I.step (ch:=ch) hch (λ b o hL hb hc e n=>u.keep b o e n (λ z=>(Ac2.mp (I.stkSub b z)).elim hL hb) hc) (λ b o _ _ hc e n=>u.any e n hc) (λ b o hc e n=>u.free b o e n hc) (λ b o hc e=>u.there b o e hc) u.tups u.frzs u.tbls (λ m' hm=>by
    obtain ⟨o',es',ep',ho',r'⟩:=hm;rw [ho] at ho';cases ho';exact ⟨_,es',ep',hL,r'⟩) hok hg
theorem Inv.turned {t':Nat} {it:Addr} (I:Inv X pins σ H s) (k:∀ b o,b≠it->s.heap.get? b=some o->h'.get? b=some o) (hn:H it=none) (hL:it≠X.env.locals)
    (h1:it∈X.ex\/X.s₀.heap.objs.size<=it) (h2:∀ x c,X.env.cells.lookup x=some c->c≠it) (h3:∀ p∈X.pn++pins,p.1≠it):Inv X pins σ H { s with heap:=h',toks:=t' }:=by
  have nit:∀ b u,H b=some u->b≠it:=λ b u e z=>by rw [z,hn] at e;cases e
  refine I.step (g':=s.gens) (d':=s.drawn) (ch:=[it]) (λ b hb=> ?_) (λ b o _ _ hc e _=>k b o (λ z=>hc (by simp [z])) e) (λ b o _ _ hc e _=>⟨o.slots,k b o (λ z=>hc (by simp [z])) e⟩) (λ _ _ _ _ n=>n)
    (λ b o hc e=>⟨o,k b o (λ z=>hc (by simp [z])) e⟩) (λ _ _ e=>e) (λ _ _ _ e=>e) (λ b ps e=>⟨#[],by rw [e];simp⟩) (λ m hm=> ?_) (λ b u e=> ?_) I.bare
  · have e:b=it:=by simpa using hb
    subst e;exact ⟨h1,hL,h2,h3⟩
  · obtain ⟨o,es,ep,ho,r⟩:=hm;exact ⟨o,es,ep,k _ o (Ne.symm hL) ho,r⟩
  · refine (I.hok b u e).stay (λ c v hc q=>k c v ?_ q) (λ _ q=>q) λ _ _ q=>q;rcases hc with z | z
    · rw [z];exact nit b u e
    · exact nit c _ z
theorem Inv.tok (I:Inv X pins σ H s) (t:Nat):Inv X pins σ H { s with toks:=t }:=I.un (h':=s.heap) (t':=t) Un.refl I.hok
theorem Inv.kept {t':Nat} (I:Inv X pins σ H s) (k:∀ b u,s.heap.get? b=some u->h'.get? b=some u):Inv X pins σ H { s with heap:=h',toks:=t' }:=I.un (Un.kept k) (I.hok.kept k)
theorem Inv.laid {a:Addr} {o:HO} {t':Nat} (I:Inv X pins σ H s) (k:∀ b u,s.heap.get? b=some u->h'.get? b=some u) (hp:s.heap.objs.size<=a) (new:ObjOk X.prog X.w (upd H a o) h' a o):
    Inv X pins σ (upd H a o) { s with heap:=h',toks:=t' }:=I.un (Un.laid k hp (I.hok.fresh hp)) (I.hok.laid k hp new)
theorem Inv.write {x e:Addr} {o:HO} {t':Nat} (I:Inv X pins σ H s) (mu:Mut (H x)) (he:e=x\/H e=some (.own x)) (k:∀ b u,b≠e->s.heap.get? b=some u->h'.get? b=some u) (heo:∃ u,h'.get? e=some u)
    (new:ObjOk X.prog X.w (upd H x o) h' x o):Inv X pins σ (upd H x o) { s with heap:=h',toks:=t' }:=I.un (Un.write mu he k heo) (I.hok.write mu he k heo new)
theorem Inv.weak {σ':List (Option V)} (I:Inv X pins σ H s) (hl:σ'.length=σ.length) (w:∀ (i:Nat) v,σ'[i]?=some (some v)->σ[i]?=some (some v)):Inv X pins σ' H s:=
  ⟨I.ok,I.os,I.bare,I.base,let ⟨m,hn,hl'⟩:=I.loc;⟨m,hn,λ i x v e1 e2 e3=>hl' i x v e1 (w i v e2) e3⟩,I.cell,I.free,I.freeC,I.pin,I.hok,hl.trans I.len⟩
theorem Inv.pins_of {pins':List (Addr × Obj)} (I:Inv X pins σ H s) (h:∀ p∈pins',s.heap.get? p.1=some p.2/\H p.1=none/\p.1≠X.env.locals/\p.1∉X.fs/\∀ v,p.2.data≠ .cell v):Inv X pins' σ H s:=
  ⟨I.ok,I.os,I.bare,I.base,I.loc,I.cell,I.free,I.freeC,λ p hp=>(Ac4.mp hp).elim (λ z=>I.pin p (Ah5 _ z)) (h p),I.hok,I.len⟩
theorem Jd {N:List Str} (hN:N.Nodup) {i j:Nat} {x:Str} (a:N[i]?=some x) (b:N[j]?=some x):i=j:=by
  obtain ⟨h1,e1⟩:=Ab1.mp a;obtain ⟨h2,e2⟩:=Ab1.mp b;exact (List.getElem_inj hN).mp (e1.trans e2.symm)
theorem LY {M:Model} {A:Around} {E:Value->Shared->Prop} {i:Nat} {x:Str} {v:V} {u:Value} {Q:Unit->Shared->Prop} (I:Inv X pins σ H s) (hN:X.N.Nodup) (hi:X.N[i]?=some x) (hx:Loc X.env.scope x) (r:RelV v u)
    (h:∀ s',Inv X pins (σ.set i (some v)) H s'->(∃ a,Heap.SameBut a s.heap s'.heap/\(a=X.env.locals\/X.env.cells.lookup x=some a))->Q () s') (hf:X.fn x=true\/X.env.scope.names.lookup x=some .local:=by first | exact .inl rfl | exact .inr rfl | assumption):wpAny M A (storeName X.env x u) Q E s:=by
  obtain ⟨m,hn,hl⟩:=id I.loc;have hcls:(X.env.scope.kind == .class||(X.env.scope.kind == .module&&X.env.locals != X.env.globals))=false:=by rw [I.ok.kind];rfl
  have hiσ:i<σ.length:=by rw [I.len];exact (Ab1.mp hi).1
  have cne:=I.cne;have tracked:∀ {a:Addr} {h':Heap},(∃ o,s.heap.get? a=some o/\H a=none)->Heap.SameBut a s.heap h'->HOk X.prog X.w H h':=λ {a h'} ha hs b ob e=>by
    obtain ⟨_,_,hfree⟩:=ha;refine (I.hok b ob e).stay (λ c w' hc q=>(hs.2 c ?_).trans q) (λ _ q=>q) λ _ _ q=>q;rintro rfl;rcases hc with rfl | hc
    · rw [hfree] at e;cases e
    · rw [hfree] at hc;cases hc
  rcases hx with hk | hk
  · refine wpAny_storeName_local hk hn (λ h' hn' hs=> ?_) hcls;obtain ⟨oL,_,_,hoL,_⟩:=id hn;refine h _ ⟨I.ok,I.os,I.bare,⟨λ b o e n hb hx=> ?_,λ b o e n hb hx=> ?_,I.base.free,λ b o e hx=> ?_,I.base.tups,I.base.frzs,I.base.tbls⟩,⟨_,hn',λ j y v' e1 e2 e3=> ?_⟩,λ y c e=> ?_,I.free,I.freeC,λ p hp=> ?_,tracked ⟨oL,hoL,I.free⟩ hs,by simpa using I.len⟩ ⟨_,hs, .inl rfl⟩
    · exact (hs.2 b (Ac9 (Ac3 (Aa9 e) I.ok.above))).trans (I.base.keep b o e n hb hx)
    · obtain ⟨sl,e1⟩:=I.base.slot b o e n hb hx;exact ⟨sl,(hs.2 b (Ac9 (Ac3 (Aa9 e) I.ok.above))).trans e1⟩
    · obtain ⟨o',e1⟩:=I.base.there b o e hx;exact ⟨o',(hs.2 b (Ac9 (Ac3 (Aa9 e) I.ok.above))).trans e1⟩
    · by_cases hj:j=i
      · subst hj;rw [hi] at e1;cases e1;rw [List.getElem?_set_self hiσ] at e2;cases e2;exact ⟨u,r, .inl ⟨hk,by simp⟩⟩
      · rw [List.getElem?_set_ne (Ne.symm hj)] at e2;obtain ⟨u',r',q⟩:=hl j y v' e1 e2 e3;refine ⟨u',r',?_⟩;rcases q with ⟨k,e⟩ | ⟨k,c,e,z⟩
        · refine .inl ⟨k,?_⟩;have:y≠x:=λ e=>hj (Jd hN e1 (e▸hi));simp [this,e]
        · exact .inr ⟨k,c,e,z.sameBut hs (cne y c e)⟩
    · obtain ⟨w',z⟩:=I.cell y c e;exact ⟨w',z.sameBut hs (cne y c e)⟩
    · obtain ⟨e,n,ne,nf,d⟩:=I.pin p hp;exact ⟨(hs.2 p.1 ne).trans e,n,ne,nf,d⟩
  · have hfn:X.fn x=true:=by
      rcases hf with z | z
      · exact z
      · rw [z] at hk;cases hk
    obtain ⟨c,hc⟩:=I.ok.has x (.inl hk);obtain ⟨w',z⟩:=I.cell x c hc;refine wpAny_storeName_cell I.ok.kind hk hc z (λ h' hc' hs=> ?_);obtain ⟨oc,hoc,hocd⟩:=id z;refine h { s with heap:=h' } ⟨I.ok,I.os,I.bare,⟨λ b o e n hb hx=> ?_,λ b o e n hb hx=> ?_,I.base.free,λ b o e hx=> ?_,I.base.tups,I.base.frzs,I.base.tbls⟩,⟨m,hn.sameBut hs (Ne.symm (cne x c hc)),λ j y v' e1 e2 e3=> ?_⟩,λ y c' e=> ?_,I.free,I.freeC,λ p hp=> ?_,tracked ⟨oc,hoc,I.freeC x c hc⟩ hs,by simpa using I.len⟩ ⟨c,hs, .inr hc⟩
    · exact (hs.2 b (Ac9 (Ac3 (Aa9 e) (I.ok.cab x c hfn hc)))).trans (I.base.keep b o e n hb hx)
    · obtain ⟨sl,e1⟩:=I.base.slot b o e n hb hx;exact ⟨sl,(hs.2 b (Ac9 (Ac3 (Aa9 e) (I.ok.cab x c hfn hc)))).trans e1⟩
    · obtain ⟨o',e1⟩:=I.base.there b o e hx;exact ⟨o',(hs.2 b (Ac9 (Ac3 (Aa9 e) (I.ok.cab x c hfn hc)))).trans e1⟩
    · by_cases hj:j=i
      · subst hj;rw [hi] at e1;cases e1;rw [List.getElem?_set_self hiσ] at e2;cases e2;exact ⟨u,r, .inr ⟨.inl hk,c,hc,hc'⟩⟩
      · rw [List.getElem?_set_ne (Ne.symm hj)] at e2;obtain ⟨u',r',q⟩:=hl j y v' e1 e2 e3;refine ⟨u',r',?_⟩;rcases q with q | ⟨k,c',e,z'⟩
        · exact .inl q
        · refine .inr ⟨k,c',e,z'.sameBut hs ?_⟩;rintro rfl;exact hj (Jd hN e1 (I.ok.inj _ _ _ e hc▸hi))
    · by_cases hcc:c'=c
      · subst hcc;exact ⟨_,hc'⟩
      · obtain ⟨w2,z2⟩:=I.cell y c' e;exact ⟨w2,z2.sameBut hs hcc⟩
    · obtain ⟨e,n,ne,nf,d⟩:=I.pin p hp;refine ⟨(hs.2 p.1 ?_).trans e,n,ne,nf,d⟩;intro q;rw [q,hoc] at e;have q':oc=p.2:=Ae7.inj e;exact d w' (by rw [<-q'];exact hocd)
theorem EO {M:Model} {A:Around} {E:Value->Shared->Prop} {i:Nat} {x:Str} {v:V} {u:Value} {Q:Unit->Shared->Prop} (I:Inv X pins σ H s) (hN:X.N.Nodup) (hi:X.N[i]?=some x) (hx:Loc X.env.scope x) (r:RelV v u)
    (h:∀ s',Inv X pins (σ.set i (some v)) H s'->Q () s') (hf:X.fn x=true\/X.env.scope.names.lookup x=some .local:=by first | exact .inl rfl | exact .inr rfl | assumption):wpAny M A (storeName X.env x u) Q E s:=
  LY I hN hi hx r (λ s' I' _=>h s' I') hf
theorem Inv.call' {s':Shared} {ch:List Addr} (I:Inv X pins σ H s) (ho:s'.os=s.os) (u:Un (frs X.stack) ch H H' s.heap s'.heap) (hok:HOk X.prog X.w H' s'.heap) (hg:AllBare s'.gens)
    (hch:∀ b∈ch,(b∈X.ex\/X.s₀.heap.objs.size<=b)/\b≠X.env.locals/\(∀ x c,X.env.cells.lookup x=some c->c≠b)/\∀ p∈X.pn++pins,p.1≠b):Inv X pins σ H' s':=by
  obtain ⟨h',g',d',t',o'⟩:=s';have e:o'=s.os:=ho;subst e;exact I.call (g':=g') (t':=t') (d':=d') u hok hg hch
end
abbrev XK:=Value->Option Addr->Hp->Prop
abbrev St:=List (Option V)
abbrev VK:=V->Hp->Prop
abbrev TE:=St->Hp->VK->Prop
abbrev TT:=St->Hp->(Bool->Hp->Prop)->Prop
abbrev TA:=St->Hp->(List V->Hp->Prop)->Prop
structure Ends where
  nx:St->Hp->Prop
  rt:VK
  bk:St->Hp->Prop:=λ _ _=>False
  ct:St->Hp->Prop:=λ _ _=>False
abbrev TS:=Ends->St->Hp->Prop
def EP (X:Cx) (pins:List (Addr × Obj)) (σ:St) (Q:VK) (u:Value) (s':Shared):Prop:=∃ v H',Inv X pins σ H' s'/\RelV v u/\Q v H'
def TP (X:Cx) (pins:List (Addr × Obj)) (σ:St) (Q:Bool->Hp->Prop) (b:Bool) (s':Shared):Prop:=∃ H',Inv X pins σ H' s'/\Q b H'
def AP (X:Cx) (pins:List (Addr × Obj)) (σ:St) (Q:List V->Hp->Prop) (us:List Value) (s':Shared):Prop:=∃ vs H',Inv X pins σ H' s'/\Vals vs us/\Q vs H'
def SP (X:Cx) (pins:List (Addr × Obj)) (D:Ends) (f:Flow) (s':Shared):Prop:=
  match f with
  | .next=>∃ σ' H',Inv X pins σ' H' s'/\D.nx σ' H'
  | .brk=>∃ σ' H',Inv X pins σ' H' s'/\D.bk σ' H'
  | .cont=>∃ σ' H',Inv X pins σ' H' s'/\D.ct σ' H'
  | .ret u=>∃ v σ' H',Inv X pins σ' H' s'/\RelV v u/\D.rt v H'
def PE (X:Cx) (e:Expr) (t:TE):Prop:=
  ∀ (pins:List (Addr × Obj)) (s:Shared) (σ:St) (H:Hp) (Q:VK),Inv X pins σ H s->t σ H Q->wpAny (model X.prog X.w) X.A (eval e X.env) (EP X pins σ Q) X.xe s
def PT (X:Cx) (e:Expr) (t:TT):Prop:=
  ∀ (pins:List (Addr × Obj)) (s:Shared) (σ:St) (H:Hp) (Q:Bool->Hp->Prop),Inv X pins σ H s->t σ H Q->wpAny (model X.prog X.w) X.A (isTrue e X.env (eval e X.env)) (TP X pins σ Q) X.xe s
def PW (X:Cx) (e:Expr) (t:TT):Prop:=
  ∀ (whole:Sem Value) (pins:List (Addr × Obj)) (s:Shared) (σ:St) (H:Hp) (Q:Bool->Hp->Prop),Inv X pins σ H s->t σ H Q->wpAny (model X.prog X.w) X.A (isTrue e X.env whole) (TP X pins σ Q) X.xe s
theorem PW.pt {X:Cx} {e:Expr} {t:TT} (h:PW X e t):PT X e t:=h _
def PA (X:Cx) (es:List Expr) (t:TA):Prop:=
  ∀ (pos:Pos) (pins:List (Addr × Obj)) (s:Shared) (σ:St) (H:Hp) (Q:List V->Hp->Prop),Inv X pins σ H s->t σ H Q->wpAny (model X.prog X.w) X.A (spliced (backTo pos (starEach es X.env))) (AP X pins σ Q) X.xe s
def PS (X:Cx) (st:Stmt) (t:TS):Prop:=
  ∀ (pins:List (Addr × Obj)) (s:Shared) (σ:St) (H:Hp) (D:Ends),Inv X pins σ H s->t D σ H->wpAny (model X.prog X.w) X.A (exec st X.env) (SP X pins D) X.xe s
def PSs (X:Cx) (st:List Stmt) (t:TS):Prop:=
  ∀ (pins:List (Addr × Obj)) (s:Shared) (σ:St) (H:Hp) (D:Ends),Inv X pins σ H s->t D σ H->wpAny (model X.prog X.w) X.A (execs st X.env) (SP X pins D) X.xe s
theorem thn {α:Type} {t:Sem α} {Q Q':α->Shared->Prop} {M:Model} {A:Around} {E:Value->Shared->Prop} {s:Shared} (h:wpAny M A t Q E s) (hQ:∀ a s,Q a s->Q' a s):wpAny M A t Q' E s:=Ag6 h hQ λ _ _ x=>x
section
variable {X:Cx}
theorem bin {a b:Expr} {ta tb:TE} (ha:PE X a ta) (hb:PE X b tb) {pins:List (Addr × Obj)} {s:Shared} {σ:St} {H:Hp} {R:V->V->Hp->Prop} (I:Inv X pins σ H s) (h:ta σ H λ x H1=>tb σ H1 λ y H2=>R x y H2)
    {α:Type} {Q:α->Shared->Prop} {f:Value->Value->Sem α}
    (hf:∀ v u s2 x y H2,Inv X pins σ H2 s2->RelV x v->RelV y u->R x y H2->wpAny (model X.prog X.w) X.A (f v u) Q X.xe s2):
    wpAny (model X.prog X.w) X.A (eval a X.env) (λ v s₁=>wpAny (model X.prog X.w) X.A (eval b X.env) (λ u s₂=>wpAny (model X.prog X.w) X.A (f v u) Q X.xe s₂) X.xe s₁) X.xe s:=by
  refine thn (ha pins s σ H _ I h) λ v s1 ⟨x,H1,I1,r1,q1⟩=> ?_;refine thn (hb pins s1 σ H1 _ I1 q1) λ u s2 ⟨y,H2,I2,r2,q2⟩=> ?_;exact hf v u s2 x y H2 I2 r1 r2 q2
def SL (i:Nat):TE:=λ σ H Q=>∃ v,σ[i]?=some (some v)/\Q v H
def tC (v:V):TE:=λ _ H Q=>Q v H
theorem R6 {i:Nat} {x:Str} {pos:Pos} (hN:X.N[i]?=some x) (hv:Vis X.env.scope x) (hd:(x == ("__debug__":Str))=false:=by decide) (hcd:(x == ("__classdict__":Str))=false:=by decide):PE X (.Name x pos) (SL i):=by
  intro pins s σ H Q I h;obtain ⟨v,e,h⟩:=h;obtain ⟨m,hn,hl⟩:=I.loc;obtain ⟨u,r,l⟩:=hl i x v hN e hv;have fin:EP X pins σ Q u s:=⟨v,H,I,r,h⟩;rcases l with ⟨hk,hm⟩ | ⟨hk,c,hc,hcell⟩
  · exact wpAny_Name (wpAny_loadName_local I.ok.kind hk hn hm fin) hd
  · rcases hk with hk | hk
    · exact wpAny_Name (wpAny_loadName_cell I.ok.kind hk hc hcell fin) hd
    · exact wpAny_Name (wpAny_loadName_free I.ok.kind hk hc hcell fin hcd) hd
theorem Ag {i j pos}:PE X (.Constant (.int i) j pos) (tC (.int i)):=λ _ _ _ H _ I h=>wpAny_Constant_int ⟨.int i,H,I.tok _,⟨_,rfl⟩,h⟩
theorem C3 {b j pos}:PE X (.Constant (.bool b) j pos) (tC (.bl b)):=λ _ _ _ H _ I h=>Constant_bool ⟨.bl b,H,I,rfl,h⟩
theorem EX {j pos}:PE X (.Constant .none j pos) (tC .non):=λ _ _ _ H _ I h=>Constant_none ⟨.non,H,I,rfl,h⟩
theorem Fc {x j pos}:PE X (.Constant (.str x) j pos) (tC (.str x)):=λ _ _ _ H _ I h=>Calls.Constant_str ⟨.str x,H,I.tok _,⟨_,rfl⟩,h⟩
def Gl (X:Cx) (x:Str):Prop:=X.env.kindOf x=some .globalImplicit
theorem IJ {E:Value->Shared->Prop} {pins:List (Addr × Obj)} {s:Shared} {σ:St} {H:Hp} {x:Str} {u:Value} {pos:Pos} {Q:Value->Shared->Prop} (I:Inv X pins σ H s) (hg:Gl X x) (hm:X.mg x=some u) (h:Q u s)
    (hd:(x == ("__debug__":Str))=false:=by decide):wpAny (model X.prog X.w) X.A (eval (.Name x pos) X.env) Q E s:=
  Calls.Name_function_global I.ok.kind hg (Calls.loadGlobal_global (by rw [I.ok.glob];exact I.mod.glob.keeps I.bk) hm h) hd
theorem BX {E:Value->Shared->Prop} {pins:List (Addr × Obj)} {s:Shared} {σ:St} {H:Hp} {x:Str} {u:Value} {pos:Pos} {Q:Value->Shared->Prop} (I:Inv X pins σ H s) (hg:Gl X x) (hm:X.mg x=none) (hv:bootBuiltins x=some u) (h:Q u s)
    (hn:x≠"__name__":=by decide) (hd:(x == ("__debug__":Str))=false:=by decide):wpAny (model X.prog X.w) X.A (eval (.Name x pos) X.env) Q E s:=by
  obtain ⟨mb,h1,h2⟩:=I.mod.blt;exact Calls.Name_function_global I.ok.kind hg (Calls.loadGlobal_builtin (by rw [I.ok.glob];exact I.mod.glob.keeps I.bk) hm (by rw [I.ok.blt];exact h1.keeps I.bk) ((h2 x hn).trans hv) h) hd
theorem Lw {x:Str} {v:V} {u:Value} {pos:Pos} (hg:Gl X x) (hm:X.mg x=some u) (r:RelV v u) (hd:(x == ("__debug__":Str))=false:=by decide):PE X (.Name x pos) (tC v):=
  λ _ _ _ H _ I h=>IJ I hg hm ⟨v,H,I,r,h⟩ hd
theorem PX {x:Str} {v:V} {u:Value} {pos:Pos} (hg:Gl X x) (hm:X.mg x=none) (hv:bootBuiltins x=some u) (r:RelV v u) (hn:x≠"__name__":=by decide) (hd:(x == ("__debug__":Str))=false:=by decide):PE X (.Name x pos) (tC v):=
  λ _ _ _ H _ I h=>BX I hg hm hv ⟨v,H,I,r,h⟩ hn hd
variable {a b:Expr} {ta tb:TE} {pos:Pos}
def PC (X:Cx) (op:CmpOp) (a b:Expr) (t:TE):Prop:=
  ∀ (pins:List (Addr × Obj)) (s:Shared) (σ:St) (H:Hp) (Q:VK),Inv X pins σ H s->t σ H Q->
    wpAny (model X.prog X.w) X.A (eval a X.env) (λ v s₁=>wpAny (model X.prog X.w) X.A (eval b X.env) (λ u s₂=>wpAny (model X.prog X.w) X.A (compareOp op v u) (EP X pins σ Q) X.xe s₂) X.xe s₁) X.xe s
theorem Nd (b:Expr) {op:CmpOp} (h:op≠ .In) (h2:op≠ .NotIn):behindInMarks op b=false:=by
  have e1:(op == CmpOp.In)=false:=by cases op <;> first | rfl | exact absurd rfl h
  have e2:(op == CmpOp.NotIn)=false:=by cases op <;> first | rfl | exact absurd rfl h2
  cases b <;> simp [behindInMarks,e1,e2]
def tB (t:TE):TT:=λ σ H Q=>t σ H λ x H1=>∃ c,x= .bl c/\Q c H1
theorem N0 {op:CmpOp} {t:TE} (h:PC X op a b t) (h1:behindInMarks op b=false:=by first | exact Nd _ (by decide) (by decide) | rfl):PT X (.Compare a [op] [b] pos) (tB t):=by
  intro pins s σ H Q I hw;refine wpAny_isTrue_Compare1 (thn (h pins s σ H _ I hw) λ v s1 h1=>thn h1 λ u s2 h2=>thn h2 λ c s3 ⟨x,H1,I1,r1,q1⟩=> ?_) h1;obtain ⟨d,rfl,q⟩:=q1;cases r1;exact Ai0 ⟨H1,I1,q⟩
theorem Bu {e:Expr} {t:TE} (h:PE X e t) (he:∀ whole,isTrue e X.env whole=(do let v <-whole;standAt e.pos;holding [v] (truthy v)):=by intro _;rfl):PT X e (tB t):=by
  intro pins s σ H Q I hw;refine isTrue_plain (thn (h pins s σ H _ I hw) λ v s1 ⟨x,H1,I1,r1,q1⟩=> ?_) (he _);obtain ⟨d,rfl,q⟩:=q1;cases r1;exact Ai0 ⟨H1,I1,q⟩
variable {tA tB':TT} {Bm:List Expr}
def Uq (t u:TT):TT:=λ σ H Q=>t σ H λ c H1=>if c=true then u σ H1 Q else Q false H1
def tOr (t u:TT):TT:=λ σ H Q=>t σ H λ c H1=>if c=true then Q true H1 else u σ H1 Q
def Ug (t:TT):TT:=λ σ H Q=>t σ H λ c H1=>Q (!c) H1
theorem Eu (ha:PT X a tA):PW X (.BoolOp .And [a] pos) tA:=by
  intro wh pins s σ H Q I h;refine isTrue_and (thn (ha pins s σ H Q I h) λ c s1 e=> ?_);cases c with
  | true=>exact isTrue_and_nil e
  | false=>exact e
theorem Dg (ha:PT X a tA):PW X (.BoolOp .Or [a] pos) tA:=by
  intro wh pins s σ H Q I h;refine isTrue_or (thn (ha pins s σ H Q I h) λ c s1 e=> ?_);cases c with
  | false=>exact isTrue_or_nil e
  | true=>exact e
theorem Ga (ha:PT X a tA) (hb:PW X (.BoolOp .And (b::Bm) pos) tB'):PW X (.BoolOp .And (a::b::Bm) pos) (Uq tA tB'):=by
  intro wh pins s σ H Q I h;refine isTrue_and (thn (ha pins s σ H _ I h) λ c s1 ⟨H1,I1,q1⟩=> ?_);cases c with
  | true=>exact hb wh pins s1 σ H1 Q I1 q1
  | false=>exact ⟨H1,I1,q1⟩
theorem EL (ha:PT X a tA) (hb:PW X (.BoolOp .Or (b::Bm) pos) tB'):PW X (.BoolOp .Or (a::b::Bm) pos) (tOr tA tB'):=by
  intro wh pins s σ H Q I h;refine isTrue_or (thn (ha pins s σ H _ I h) λ c s1 ⟨H1,I1,q1⟩=> ?_);cases c with
  | true=>exact ⟨H1,I1,q1⟩
  | false=>exact hb wh pins s1 σ H1 Q I1 q1
theorem De (ha:PT X a tA):PT X (.UnaryOp .Not a pos) (Ug tA):=by
  intro pins s σ H Q I h;exact isTrue_not (ha pins s σ H (λ c H1=>Q (!c) H1) I h)
def Q3 (ta tb:TE):TE:=λ σ H Q=>ta σ H λ x H1=>∃ c,x= .bl c/\if c=true then tb σ H1 Q else Q (.bl false) H1
def QU (ta:TE):TE:=λ σ H Q=>ta σ H λ x H1=>∃ c,x= .bl c/\Q (.bl (!c)) H1
theorem Km {op} {t:TE} (h:PE X a t):PE X (.BoolOp op [a] pos) t:=λ pins s σ H Q I hw=>BoolOp_one (h pins s σ H Q I hw)
theorem Nl (ha:PE X a ta) (hb:PE X (.BoolOp .And (b::Bm) pos) tb):PE X (.BoolOp .And (a::b::Bm) pos) (Q3 ta tb):=by
  intro pins s σ H Q I h;refine BoolOp_and (thn (ha pins s σ H _ I h) λ v s1 ⟨x,H1,I1,r1,q1⟩=> ?_);obtain ⟨c,rfl,q1⟩:=q1;cases r1;refine Ai0 ?_;cases c with
  | true=>exact hb pins s1 σ H1 Q I1 q1
  | false=>exact ⟨.bl false,H1,I1,rfl,q1⟩
theorem Re (ha:PE X a ta):PE X (.UnaryOp .Not a pos) (QU ta):=by
  intro pins s σ H Q I h;refine UnaryOp_ (thn (ha pins s σ H _ I h) λ v s1 ⟨x,H1,I1,r1,q1⟩=> ?_);obtain ⟨c,rfl,q1⟩:=q1;cases r1;exact not_of (Ai0 ⟨.bl (!c),H1,I1,rfl,q1⟩)
def tIf (t:TT) (ta tb:TE):TE:=λ σ H Q=>t σ H λ c H1=>if c=true then ta σ H1 Q else tb σ H1 Q
theorem N5 {c:Expr} (hc:PT X c tA) (ha:PE X a ta) (hb:PE X b tb):PE X (.IfExp c a b pos) (tIf tA ta tb):=by
  intro pins s σ H Q I h;refine wpAny_IfExp (thn (hc pins s σ H _ I h) λ d s1 ⟨H1,I1,q1⟩=> ?_);cases d with
  | true=>exact ha pins s1 σ H1 Q I1 q1
  | false=>exact hb pins s1 σ H1 Q I1 q1
end
def SqL (K:PySem.W.Frag) (H:Hp) (a:Addr) (xs:List V):Prop:=
  Rd H a (.lst xs)\/
    ∃ (o:Obj) (its:Array Value) (n:Nat),K.lookup a=some o/\o.cls= .type "list"/\o.dict=none/\o.data= .seq its n/\its.size<=sizeLine/\Vals xs its.toList
def SqT (K:PySem.W.Frag) (H:Hp) (a:Addr) (xs:List V):Prop:=
  Rd H a (.tup xs)\/
    ∃ (o:Obj) (its:Array Value) (n:Nat),K.lookup a=some o/\o.cls= .type "tuple"/\o.data= .seq its n/\its.size<=sizeLine/\Vals xs its.toList
def Xn:Value->Option V
  | .none=>some .non
  | .bool b=>some (.bl b)
  | .int i _=>some (.int i)
  | .str x _=>some (.str x)
  | .bytes b _=>some (.byt b)
  | .float b _=>some (.flt b)
  | .ref a=>some (.ref a)
  | .type n=>some (.ty n)
  | _=>none
theorem RelV.abs {x:V} {u:Value} (r:RelV x u):Xn u=some x:=by
  cases x with
  | non=>cases r;rfl
  | bl _=>cases r;rfl
  | int _=>obtain ⟨t,rfl⟩:=r;rfl
  | str _=>obtain ⟨t,rfl⟩:=r;rfl
  | byt _=>obtain ⟨t,rfl⟩:=r;rfl
  | flt _=>obtain ⟨t,rfl⟩:=r;rfl
  | ref _=>cases r;rfl
  | ty _=>cases r;rfl
theorem RelV.inj {x y:V} {u:Value} (r:RelV x u) (q:RelV y u):x=y:=Ae7.inj (r.abs.symm.trans q.abs)
theorem Vals.inj:∀ {xs ys:List V} {us:List Value},Vals xs us->Vals ys us->xs=ys
  | _,_,_, .nil, .nil=>rfl
  | _,_,_, .cons r t, .cons r' t'=>by rw [r.inj r',Vals.inj t t']
section
variable {X:Cx} {pins:List (Addr × Obj)} {σ:St} {H:Hp} {s:Shared} {a:Addr} {xs ys:List V}
theorem SqL.of {K:PySem.W.Frag} (h:H a=some (.lst xs)):SqL K H a xs:= .inl (.inl h)
theorem SqT.of {K:PySem.W.Frag} (h:H a=some (.tup xs)):SqT K H a xs:= .inl (.inl h)
theorem Inv.list (I:Inv X pins σ H s) (h:SqL X.K H a xs):∃ its:List Value,Vals xs its/\PlainL s.heap a its.toArray/\xs.length<=sizeLine:=by
  rcases h with h | ⟨o,its,n,hk,hc,hd,hs,hz,r⟩
  · obtain ⟨z,its,n,r,e⟩:=h.ok I.hok;exact ⟨its,r,⟨_,n,e,rfl,rfl,rfl⟩,z⟩
  · refine ⟨its.toList,r,⟨o,n,I.kIn a o hk,hc,hd,by simpa using hs⟩,?_⟩;have e:=r.length;simp only [Ad2] at e;omega
theorem Inv.tuple (I:Inv X pins σ H s) (h:SqT X.K H a xs):∃ its:List Value,Vals xs its/\IsTup s.heap a its.toArray/\xs.length<=sizeLine:=by
  rcases h with h | ⟨o,its,n,hk,hc,hs,hz,r⟩
  · obtain ⟨z,its,r,p⟩:=h.ok I.hok;exact ⟨its,r,p,z⟩
  · refine ⟨its.toList,r,⟨o,I.kIn a o hk,hc,n,by simpa using hs⟩,?_⟩;have e:=r.length;simp only [Ad2] at e;omega
theorem Inv.list_inj (I:Inv X pins σ H s) (h:SqL X.K H a xs) (h':SqL X.K H a ys):xs=ys:=by
  obtain ⟨its,r,⟨o,n,e,_,_,d⟩,_⟩:=I.list h;obtain ⟨its',r',⟨o',n',e',_,_,d'⟩,_⟩:=I.list h';rw [e] at e';cases e';rw [d] at d';injection d' with d1 _;have:its=its':=by simpa using congrArg Array.toList d1
  subst this;exact r.inj r'
theorem Inv.tuple_inj (I:Inv X pins σ H s) (h:SqT X.K H a xs) (h':SqT X.K H a ys):xs=ys:=by
  obtain ⟨its,r,⟨o,e,_,n,d⟩,_⟩:=I.tuple h;obtain ⟨its',r',⟨o',e',_,n',d'⟩,_⟩:=I.tuple h';rw [e] at e';cases e';rw [d] at d';injection d' with d1 _;have:its=its':=by simpa using congrArg Array.toList d1
  subst this;exact r.inj r'
end
abbrev Cx.wish (X:Cx) (E:Value->Shared->Prop):Cx:={ X with xe:=E }
abbrev Cx.nox (X:Cx):Cx:=X.wish λ _ _=>False
theorem Cx.Ok.wish {X:Cx} (ok:X.Ok) (E:Value->Shared->Prop):(X.wish E).Ok:=
  ⟨ok.mod,ok.kind,ok.glob,ok.blt,ok.above,ok.inj,ok.has,ok.cab,ok.hd,ok.frames,ok.stk,ok.exf,ok.bs,ok.bsz,ok.noex,ok.exfs,ok.funs,ok.frf⟩
theorem Cx.Ok.unwish {X:Cx} {E:Value->Shared->Prop} (ok:(X.wish E).Ok):X.Ok:=
  ⟨ok.mod,ok.kind,ok.glob,ok.blt,ok.above,ok.inj,ok.has,ok.cab,ok.hd,ok.frames,ok.stk,ok.exf,ok.bs,ok.bsz,ok.noex,ok.exfs,ok.funs,ok.frf⟩
section
variable {X:Cx} {pins:List (Addr × Obj)} {σ:St} {H:Hp} {s:Shared} {E:Value->Shared->Prop}
theorem Inv.wish (I:Inv X pins σ H s) (E:Value->Shared->Prop):Inv (X.wish E) pins σ H s:=⟨I.ok.wish E,I.os,I.bare,I.base,I.loc,I.cell,I.free,I.freeC,I.pin,I.hok,I.len⟩
theorem Inv.unwish (I:Inv (X.wish E) pins σ H s):Inv X pins σ H s:=⟨I.ok.unwish,I.os,I.bare,I.base,I.loc,I.cell,I.free,I.freeC,I.pin,I.hok,I.len⟩
theorem SP.unwish {D:Ends} {f:Flow} {s':Shared} (h:SP (X.wish E) pins D f s'):SP X pins D f s':=by
  cases f with
  | next=>obtain ⟨σ',H',I,q⟩:=h;exact ⟨σ',H',I.unwish,q⟩
  | brk=>obtain ⟨σ',H',I,q⟩:=h;exact ⟨σ',H',I.unwish,q⟩
  | cont=>obtain ⟨σ',H',I,q⟩:=h;exact ⟨σ',H',I.unwish,q⟩
  | ret u=>obtain ⟨v,σ',H',I,r,q⟩:=h;exact ⟨v,σ',H',I.unwish,r,q⟩
theorem PSs.nox {st:List Stmt} {t:TS} (h:PSs X.nox st t):PSs X st t:=λ pins s σ H D I hw=>
  Ag6 (h pins s σ H D (I.wish _) hw) (λ _ _ q=>q.unwish) λ _ _ z=>False.elim z
end
section
variable {X:Cx} {st:Stmt} {Bm:List Stmt} {t u:TS} {e:Expr} {te:TE} {pos:Pos}
def Q2:TS:=λ D σ H=>D.nx σ H
def Tu (t u:TS):TS:=λ D σ H=>t { D with nx:=u D } σ H
theorem AI:PSs X [] Q2:=λ _ _ σ H _ I h=>wpAny_execs_nil ⟨σ,H,I,h⟩
theorem Ad (h1:PS X st t) (h2:PSs X Bm u):PSs X (st::Bm) (Tu t u):=by
  intro pins s σ H D I h;refine wpAny_execs_cons (thn (h1 pins s σ H { D with nx:=u D } I h) λ f s1 q=> ?_);cases f with
  | next=>
    obtain ⟨σ',H',I',q⟩:=q;exact h2 pins s1 σ' H' D I' q
  | ret v=>exact q
  | brk=>exact q
  | cont=>exact q
theorem Ae (h1:PS X st t):PSs X [st] t:=by
  intro pins s σ H D I h;refine wpAny_execs_cons (thn (h1 pins s σ H D I h) λ f s1 q=> ?_);cases f with
  | next=>exact wpAny_execs_nil q
  | ret v=>exact q
  | brk=>exact q
  | cont=>exact q
theorem Inv.quiet {pins:List (Addr × Obj)} {σ:St} {H:Hp} {s:Shared} (I:Inv X pins σ H s):interactive X.env=false:=by simp [interactive,I.ok.kind]
def Q6 (te:TE):TS:=λ D σ H=>te σ H λ _ H1=>D.nx σ H1
theorem A4 (he:PE X e te) (hs:swapsWith e none pos.line X.env=pure false:=by rfl):PS X (.Expr e pos) (Q6 te):=by
  intro pins s σ H D I h;exact wpAny_Expr_any (thn (he pins s σ H _ I h) λ v s1 ⟨x,H1,I1,r1,q1⟩=>⟨σ,H1,I1,q1⟩) I.quiet hs
def W0 (te:TE):TS:=λ D σ H=>te σ H D.rt
theorem An (he:PE X e te):PS X (.Return (some e) pos) (W0 te):=by
  intro pins s σ H D I h;exact wpAny_Return_some (thn (he pins s σ H _ I h) λ v s1 ⟨x,H1,I1,r1,q1⟩=>⟨x,σ,H1,I1,r1,q1⟩)
def TQ (c:TT) (t u:TS):TS:=λ D σ H=>c σ H λ b H1=>if b=true then t D σ H1 else u D σ H1
theorem Bo {c:Expr} {a b:List Stmt} {tc:TT} (hc:PT X c tc) (ha:PSs X a t) (hb:PSs X b u):PS X (.If c a b pos) (TQ tc t u):=by
  intro pins s σ H D I h;refine wpAny_If (thn (hc pins s σ H _ I h) λ d s1 ⟨H1,I1,q1⟩=> ?_);cases d with
  | true=>exact ha pins s1 σ H1 D I1 q1
  | false=>exact hb pins s1 σ H1 D I1 q1
def Te:TS:=λ _ _ _=>False
theorem F5:PS X st Te:=λ _ _ _ _ _ _ h=>h.elim
end
abbrev TG:=V->St->Hp->(St->Hp->Prop)->Prop
abbrev TGs:=List V->St->Hp->(St->Hp->Prop)->Prop
def PG (X:Cx) (target:Expr) (t:TG):Prop:=
  ∀ (pins:List (Addr × Obj)) (s:Shared) (σ:St) (H:Hp) (v:V) (u:Value) (Q:St->Hp->Prop),Inv X pins σ H s->RelV v u->t v σ H Q->
    wpAny (model X.prog X.w) X.A (assign target X.env u) (λ _ s'=>∃ σ' H',Inv X pins σ' H' s'/\Q σ' H') X.xe s
def PGs (X:Cx) (ts:List Expr) (t:TGs):Prop:=
  ∀ (pins:List (Addr × Obj)) (s:Shared) (σ:St) (H:Hp) (vs:List V) (us:List Value) (Q:St->Hp->Prop),Inv X pins σ H s->Vals vs us->t vs σ H Q->
    wpAny (model X.prog X.w) X.A (assignInOrder ((assignEach ts X.env).map (·.2)) us) (λ _ s'=>∃ σ' H',Inv X pins σ' H' s'/\Q σ' H') X.xe s
abbrev TIp:=V->V->Hp->VK->Prop
def PIp (X:Cx) (op:Operator) (t:TIp):Prop:=
  ∀ (pins:List (Addr × Obj)) (s:Shared) (σ:St) (H:Hp) (x y:V) (v u:Value) (Q:VK),Inv X pins σ H s->RelV x v->RelV y u->t x y H Q->
    wpAny (model X.prog X.w) X.A (inplaceOp op v u) (EP X pins σ Q) X.xe s
section
variable {X:Cx} {pos:Pos}
def Ax (i:Nat):TG:=λ v σ H Q=>Q (σ.set i (some v)) H
theorem Ar {i:Nat} {x:Str} (hN:X.N.Nodup) (hi:X.N[i]?=some x) (hx:Loc X.env.scope x) (hf:X.fn x=true\/X.env.scope.names.lookup x=some .local:=by first | exact .inl rfl | exact .inr rfl | assumption):PG X (.Name x pos) (Ax i):=by
  intro pins s σ H v u Q I r h;exact wpAny_assign_Name (EO I hN hi hx r (λ s' I'=>⟨_,H,I',h⟩) hf)
def FC:TGs:=λ vs σ H Q=>vs=[]/\Q σ H
def A0 (t:TG) (u:TGs):TGs:=λ vs σ H Q=>∃ v r,vs=v::r/\t v σ H λ σ' H'=>u r σ' H' Q
theorem CU:PGs X [] FC:=by
  intro pins s σ H vs us Q I r h;obtain ⟨e,h⟩:=h;subst e;cases r;exact assignInOrder_nil ⟨σ,H,I,h⟩
theorem AD {e:Expr} {es:List Expr} {t:TG} {u:TGs} (h1:PG X e t) (h2:PGs X es u)
    (hs:(assignEach (e::es) X.env).map (·.2)=assign e X.env::(assignEach es X.env).map (·.2):=by rfl):PGs X (e::es) (A0 t u):=by
  intro pins s σ H vs us Q I r h;obtain ⟨v,vr,e1,h⟩:=h;subst e1;cases r with
  | cons r rr=>
    rw [hs];refine assignInOrder_cons (thn (h1 pins s σ H _ _ _ I r h) λ _ s1 ⟨σ1,H1,I1,q1⟩=> ?_);exact h2 pins s1 σ1 H1 _ _ Q I1 rr q1
def E8 (K:PySem.W.Frag) (n:Nat) (t:TGs):TG:=λ v σ H Q=>∃ a xs,v= .ref a/\SqT K H a xs/\xs.length=n/\t xs σ H Q
theorem J4 {es:List Expr} {k:Nat} {t:TGs} {n:Nat} (hc:X.calm=true) (h:PGs X es t)
    (hn:(assignEach es X.env).length=n:=by rfl) (hst:(assignEach es X.env).findIdx? (·.1)=none:=by rfl):PG X (.Tuple es k pos) (E8 X.K n t):=by
  intro pins s σ H v u Q I r hw;obtain ⟨a,xs,e1,hq,hl,hw⟩:=hw;subst e1;cases r;obtain ⟨its,rv,ht,hz⟩:=I.tuple hq;refine assign_Tuple_tuple (I.ok.hd hc) ht (by simp [hn, <-hl,rv.length]) hst λ h' hx=> ?_;have I1:Inv X pins σ H { s with heap:=h' }:=I.kept (t':=s.toks) λ b o e=>hx b o (Ac9 (Aa9 e)) e;exact h pins _ σ H xs _ Q I1 (by simpa using rv) hw
def M5 (te:TE) (g:TG):TS:=λ D σ H=>te σ H λ x H1=>g x σ H1 D.nx
theorem S5 {tg e:Expr} {te:TE} {g:TG} (he:PE X e te) (hg:PG X tg g) (hs:swapsWithSole [tg] e pos.line X.env=pure false:=by rfl) (hw:swappedStores [tg] e X.env=pure none:=by rfl)
    (h1:(assignEach [tg] X.env).map (·.2)=[assign tg X.env]:=by rfl):PS X (.Assign [tg] e pos) (M5 te g):=by
  intro pins s σ H D I h;refine wpAny_Assign_stores (thn (he pins s σ H _ I h) λ v s1 ⟨x,H1,I1,r1,q1⟩=> ?_) hs hw;rw [h1];exact thn (hg pins s1 σ H1 x v _ I1 r1 q1) λ _ s2 q=>q
theorem Aq {i:Nat} {x:Str} {e:Expr} {te:TE} {pos':Pos} (hN:X.N.Nodup) (hi:X.N[i]?=some x) (hx:Loc X.env.scope x) (he:PE X e te) (hs:swapsWith e (some (.Name x pos')) pos.line X.env=pure false:=by rfl) (hf:X.fn x=true\/X.env.scope.names.lookup x=some .local:=by first | exact .inl rfl | exact .inr rfl | assumption):
    PS X (.Assign [.Name x pos'] e pos) (M5 te (Ax i)):=by
  intro pins s σ H D I h;refine wpAny_Assign_Name (thn (he pins s σ H _ I h) λ v s1 ⟨y,H1,I1,r1,q1⟩=> ?_) hs;exact EO I1 hN hi hx r1 (λ s2 I2=>⟨_,H1,I2,q1⟩) hf
def Wl (i:Nat) (te:TE) (ti:TIp):TS:=λ D σ H=>∃ x,σ[i]?=some (some x)/\te σ H λ y H1=>ti x y H1 λ z H2=>D.nx (σ.set i (some z)) H2
theorem Of {i:Nat} {x:Str} {e:Expr} {te:TE} {op:Operator} {ti:TIp} {pos':Pos} (hN:X.N.Nodup) (hi:X.N[i]?=some x) (hx:Loc X.env.scope x) (he:PE X e te) (ho:PIp X op ti) (hf:X.fn x=true\/X.env.scope.names.lookup x=some .local:=by first | exact .inl rfl | exact .inr rfl | assumption):
    PS X (.AugAssign (.Name x pos') op e pos) (Wl i te ti):=by
  intro pins s σ H D I h;obtain ⟨v,e1,h⟩:=h;obtain ⟨m,hn,hl⟩:=I.loc;have vis:Vis X.env.scope x:=by rcases hx with k | k;exact .inl k;exact .inr (.inl k)
  obtain ⟨u,r,l⟩:=hl i x v hi e1 vis;refine wpAny_AugAssign_Name ?_;have go:wpAny (model X.prog X.w) X.A (eval e X.env) (λ w s₂=>wpAny (model X.prog X.w) X.A (inplaceOp op u w) (λ r s₃=>wpAny (model X.prog X.w) X.A (storeName X.env x r) (λ _=>SP X pins D .next) X.xe s₃) X.xe s₂) X.xe s:=by
    refine thn (he pins s σ H _ I h) λ w s1 ⟨y,H1,I1,r1,q1⟩=> ?_;refine thn (ho pins s1 σ H1 v y u w _ I1 r r1 q1) λ z s2 ⟨zv,H2,I2,r2,q2⟩=> ?_;exact EO I2 hN hi hx r2 (λ s3 I3=>⟨_,H2,I3,q2⟩) hf
  rcases l with ⟨hk,hm⟩ | ⟨hk,c,hc,hcell⟩
  · exact wpAny_loadName_local I.ok.kind hk hn hm go
  · rcases hk with hk | hk
    · exact wpAny_loadName_cell I.ok.kind hk hc hcell go
    · rcases hx with k | k
      · have:X.env.scope.names.lookup x=some .free:=hk;rw [k] at this;cases this
      · have:X.env.scope.names.lookup x=some .free:=hk;rw [k] at this;cases this
end
section
variable {X:Cx} {pos:Pos}
def RH (c:TT) (tb:TS):TS:=λ D σ H=>∃ W:Nat->St->Hp->Prop,(∃ m,W m σ H)/\∀ m σ H,W m σ H->
  c σ H λ b H1=>if b=true then ∃ N:St->Hp->Prop,(∀ σ' H',N σ' H'->∃ m',m'<m/\W m' σ' H')/\tb { D with nx:=N,ct:=N,bk:=D.nx } σ H1 else D.nx σ H1
theorem Gh {c:Expr} {body:List Stmt} {tc:TT} {tb:TS} (hp:PassesOwn (model X.prog X.w) X.A X.env X.xe) (hc:PT X c tc) (hb:PSs X body tb):PS X (.While c body [] pos) (RH tc tb):=by
  intro pins s σ H D I h;obtain ⟨W,⟨m0,w0⟩,turn⟩:=h;refine wpAny_While (codeAny_whileLoop (λ n s'=>∃ σ' H',Inv X pins σ' H' s'/\W n σ' H') ?_ m0 ⟨σ,H,I,w0⟩);rintro n s1 ⟨σ1,H1,I1,w1⟩;refine wpAny_passesOwn hp (thn (hc pins s1 σ1 H1 _ I1 (turn n σ1 H1 w1)) λ b s2 ⟨H2,I2,q2⟩=> ?_);cases b with
  | true=>
    obtain ⟨N,hN,q2⟩:=q2;rw [if_pos rfl];refine wpAny_passesOwn hp (thn (hb pins s2 σ1 H2 _ I2 q2) λ f s3 q3=> ?_);cases f with
    | next=>
      obtain ⟨σ3,H3,I3,n3⟩:=q3;obtain ⟨m',hm,w3⟩:=hN σ3 H3 n3;exact ⟨m',hm,σ3,H3,I3,w3⟩
    | cont=>
      obtain ⟨σ3,H3,I3,n3⟩:=q3;obtain ⟨m',hm,w3⟩:=hN σ3 H3 n3;exact ⟨m',hm,σ3,H3,I3,w3⟩
    | brk=>exact q3
    | ret v=>exact q3
  | false=>
    rw [if_neg Ab4];exact wpAny_execs_nil ⟨σ1,H2,I2,q2⟩
end
structure It where
  go:Nat->Hp->Prop
  yld:Nat->Hp->V->Hp->Prop
  stop:Nat->Hp->Prop
def Ce (X:Cx) (pins:List (Addr × Obj)) (H:Hp) (b:Addr):Prop:=
  H b=none/\b≠X.env.locals/\b∉X.fs/\(b∈X.ex\/X.s₀.heap.objs.size<=b)/\(∀ x c,X.env.cells.lookup x=some c->c≠b)/\∀ p∈X.pn++pins,p.1≠b
theorem Inv.fpOk {X:Cx} {pins:List (Addr × Obj)} {σ:St} {H H':Hp} {s:Shared} {b:Addr} (I:Inv X pins σ H s) (hb:s.heap.objs.size<=b) (hn:H' b=none):Ce X pins H' b:=by
  refine ⟨hn,Aj6 (Ac3 I.lt hb),I.nofs hb, .inr (Ae0 I.sz hb),λ x c e z=> ?_,λ p hp z=> ?_⟩
  · obtain ⟨v,q⟩:=I.cell x c e;exact absurd (Ac3 q.lt (by rw [z];exact hb)) (Ae5 _)
  · exact absurd (Ac3 (Aa9 (I.pin p hp).1) (by rw [z];exact hb)) (Ae5 _)
structure Turn (P:Program) (w:World) (K:PySem.W.Frag) (tg:Expr) (J:It) (fp:List Addr) (it:Addr) (tn:Nat->Heap->Prop):Prop where
  mem:it∈fp
  obj:∀ i h,tn i h->∀ b∈fp,∃ o,h.get? b=some o/\∀ v,o.data≠ .cell v
  keep:∀ i h h',tn i h->(∀ b∈fp,∀ o,h.get? b=some o->h'.get? b=some o)->tn i h'
  item:∀ (X:Cx),X.prog=P->X.w=w->X.K=K->X.calm=true->∀ (i:Nat) (pins:List (Addr × Obj)) (s:Shared) (σ:St) (H:Hp) (E:Value->Shared->Prop),Inv X pins σ H s->(∀ b∈fp,Ce X pins H b)->tn i s.heap->J.go i H->
    wpAny (model P w) X.A (pyNext (.ref it)) (λ r s1=>∃ u,r=some u/\
      wpAny (model P w) X.A (letOwnedTupleGo tg (.ref it) u) (λ _ s2=>∃ x H',Inv X pins σ H' s2/\RelV x u/\J.yld i H x H'/\tn (i+1) s2.heap/\∀ b∈fp,H' b=none) E s1) E s
  done:∀ (X:Cx),X.prog=P->X.w=w->X.K=K->X.calm=true->∀ (i:Nat) (pins:List (Addr × Obj)) (s:Shared) (σ:St) (H:Hp) (E:Value->Shared->Prop),Inv X pins σ H s->(∀ b∈fp,Ce X pins H b)->tn i s.heap->J.stop i H->
    wpAny (model P w) X.A (pyNext (.ref it)) (λ r s1=>r=none/\Inv X pins σ H s1) E s
  self:∀ (A:Around) (i:Nat) (s:Shared) (Q:Value->Shared->Prop) (E:Value->Shared->Prop),tn i s.heap->Q (.ref it) s->wpAny (model P w) A (pyIter (.ref it)) Q E s
abbrev TI:=St->Hp->(It->Hp->Prop)->Prop
def PIE (X:Cx) (pins:List (Addr × Obj)) (σ:St) (tg:Expr) (R:It->Hp->Prop) (itv:Value) (s2:Shared):Prop:=
  ∃ (it:Addr) (fp:List Addr) (tn:Nat->Heap->Prop) (J:It) (H':Hp),itv= .ref it/\Inv X pins σ H' s2/\Turn X.prog X.w X.K tg J fp it tn/\tn 0 s2.heap/\(∀ b∈fp,Ce X pins H' b)/\R J H'
def PI (X:Cx) (tg iter:Expr) (wi:TI):Prop:=
  ∀ (pins:List (Addr × Obj)) (s:Shared) (σ:St) (H:Hp) (R:It->Hp->Prop),Inv X pins σ H s->wi σ H R->
    wpAny (model X.prog X.w) X.A (eval iter X.env) (λ v s1=>wpAny (model X.prog X.w) X.A (pyIter v) (PIE X pins σ tg R) X.xe s1) X.xe s
theorem Nx {M:Model} {A:Around} {E:Value->Shared->Prop} {s:Shared} {tg:Expr} {it:Addr} {u:Value} {o:Obj} {n:String} {vs:Array Value} {Q:Unit->Shared->Prop} (ho:s.heap.get? it=some o) (hc:o.cls= .type n) (hd:o.data= .fields vs)
    (hn:["enumerate","zip","dict_itemiterator","dict_reverseitemiterator","odict_iterator","itertools.zip_longest","itertools.pairwise"].contains n=false) (hQ:Q () s):wpAny M A (letOwnedTupleGo tg (.ref it) u) Q E s:=by
  unfold letOwnedTupleGo;cases tg <;> first
    | exact Aa7 hQ
    | (cases u <;> first
        | exact Aa7 hQ
        | (refine Aa3 (wpAny_load ho ?_)
           rw [hc,hd];show wpAny M A (if (["enumerate","zip","dict_itemiterator","dict_reverseitemiterator","odict_iterator","itertools.zip_longest","itertools.pairwise"].contains n&&vs[0]? == some (rawInt _))=true then _ else _) Q E s;rw [if_neg (by intro h;rw [hn,Ai3] at h;cases h)];exact Aa7 hQ))
def Itl (K:PySem.W.Frag) (a:Addr):It:=
  ⟨λ i H=>∃ xs x,SqL K H a xs/\xs[i]?=some x,λ i H x H'=>H'=H/\∀ xs,SqL K H a xs->xs[i]?=some x,λ i H=>∃ xs,SqL K H a xs/\xs.length<=i⟩
def Itt (K:PySem.W.Frag) (a:Addr):It:=
  ⟨λ i H=>∃ xs x,SqT K H a xs/\xs[i]?=some x,λ i H x H'=>H'=H/\∀ xs,SqT K H a xs->xs[i]?=some x,λ i H=>∃ xs,SqT K H a xs/\xs.length<=i⟩
def Itr (lo:Int) (n:Nat):It:=⟨λ i _=>i<n,λ i H x H'=>H'=H/\x= .int (lo+i),λ i _=>n<=i⟩
theorem HR {P:Program} {w:World} {K:PySem.W.Frag} {tg:Expr} (a it:Addr):Turn P w K tg (Itl K a) [it] it (λ i h=>h.IsListIter it a i) where
  mem:=by simp
  obj:=λ i h st b hb=>by
    have e:b=it:=by simpa using hb
    subst e;obtain ⟨o,e,c,d⟩:=st;exact ⟨o,e,λ v z=>by rw [d] at z;cases z⟩
  keep:=λ i h h' st k=>st.at λ o e=>k it (by simp) o e
  item:=by
    intro X hP hw hK hc i pins s σ H E I hf st hg;subst hP hw hK;obtain ⟨xs,x,hq,hx⟩:=hg;obtain ⟨its,rv,p,hz⟩:=I.list hq;obtain ⟨u,hu,ru⟩:=rv.get hx;obtain ⟨f0,f1,f2,f3,f4,f5⟩:=hf it (by simp);refine wpAny_pyNext_list_item st p.isList (x:=u) (by simpa using hu) λ h' st' sb=> ?_;have I1:Inv X pins σ H { s with heap:=h' }:=I.turned (t':=s.toks) (λ b o hb e=>(sb.2 b hb).trans e) f0 f1 f3 f4 f5;obtain ⟨o,e,c,d⟩:=id st';exact ⟨u,rfl,Nx (s:={ s with heap:=h' }) e c d (by decide) ⟨x,H,I1,ru,⟨rfl,λ ys hy=>by rw [I.list_inj hy hq];exact hx⟩,st',λ b hb=>(hf b hb).1⟩⟩
  done:=by
    intro X hP hw hK hc i pins s σ H E I hf st hg;subst hP hw hK;obtain ⟨xs,hq,hx⟩:=hg;obtain ⟨its,rv,p,hz⟩:=I.list hq;obtain ⟨f0,f1,f2,f3,f4,f5⟩:=hf it (by simp);have hl:=rv.length;exact wpAny_pyNext_list_end (I.ok.hd hc) st p.isList (by simp;omega) λ h' eb=>⟨rfl,I.turned (t':=s.toks) (λ b o hb e=>eb b o hb e) f0 f1 f3 f4 f5⟩
  self:=λ _ _ _ _ _ st h=>wpAny_pyIter_listiter st h
theorem F4 {P:Program} {w:World} {K:PySem.W.Frag} {tg:Expr} (a it:Addr):Turn P w K tg (Itt K a) [it] it (λ i h=>h.IsTupleIter it a i) where
  mem:=by simp
  obj:=λ i h st b hb=>by
    have e:b=it:=by simpa using hb
    subst e;obtain ⟨o,e,c,d⟩:=st;exact ⟨o,e,λ v z=>by rw [d] at z;cases z⟩
  keep:=λ i h h' st k=>st.at λ o e=>k it (by simp) o e
  item:=by
    intro X hP hw hK hc i pins s σ H E I hf st hg;subst hP hw hK;obtain ⟨xs,x,hq,hx⟩:=hg;obtain ⟨its,rv,p,hz⟩:=I.tuple hq;obtain ⟨u,hu,ru⟩:=rv.get hx;obtain ⟨f0,f1,f2,f3,f4,f5⟩:=hf it (by simp);refine wpAny_pyNext_tuple_item st (show s.heap.IsTuple a its.toArray from p) (x:=u) (by simpa using hu) λ h' st' sb=> ?_;have I1:Inv X pins σ H { s with heap:=h' }:=I.turned (t':=s.toks) (λ b o hb e=>(sb.2 b hb).trans e) f0 f1 f3 f4 f5;obtain ⟨o,e,c,d⟩:=id st';exact ⟨u,rfl,Nx (s:={ s with heap:=h' }) e c d (by decide) ⟨x,H,I1,ru,⟨rfl,λ ys hy=>by rw [I.tuple_inj hy hq];exact hx⟩,st',λ b hb=>(hf b hb).1⟩⟩
  done:=by
    intro X hP hw hK hc i pins s σ H E I hf st hg;subst hP hw hK;obtain ⟨xs,hq,hx⟩:=hg;obtain ⟨its,rv,p,hz⟩:=I.tuple hq;obtain ⟨f0,f1,f2,f3,f4,f5⟩:=hf it (by simp);have hl:=rv.length;exact wpAny_pyNext_tuple_end (I.ok.hd hc) st (show s.heap.IsTuple a its.toArray from p) (by simp;omega) λ h' eb=>⟨rfl,I.turned (t':=s.toks) (λ b o hb e=>eb b o hb e) f0 f1 f3 f4 f5⟩
  self:=λ _ _ _ _ _ st h=>wpAny_pyIter_tupleiter st h
theorem Ki {P:Program} {w:World} {K:PySem.W.Frag} {tg:Expr} (it:Addr) (lo:Int) (n:Nat):Turn P w K tg (Itr lo n) [it] it (λ i h=>IsRangeIter h it (lo+(i:Nat)*1) ((n:Int) - (i:Nat)) 1) where
  mem:=by simp
  obj:=λ i h st b hb=>by
    have e:b=it:=by simpa using hb
    subst e;exact ⟨_,st,λ v z=>by
      have z':Data.fields _=Data.cell v:=z;cases z'⟩
  keep:=λ i h h' st k=>k it (by simp) _ st
  item:=by
    intro X hP hw hK hc i pins s σ H E I hf st hg;subst hP hw hK;obtain ⟨f0,f1,f2,f3,f4,f5⟩:=hf it (by simp);have W:=Walks.range (prog:=X.prog) (w:=X.w) (I.ok.hd hc) it lo 1 n;refine W.item i s _ _ hg st λ v h' tk hv st' kk=> ?_;obtain ⟨t,rfl⟩:=hv;have I1:Inv X pins σ H { s with heap:=h',toks:=tk }:=I.turned (λ b o hb e=>kk b o (by simpa using hb) e) f0 f1 f3 f4 f5;refine ⟨_,rfl,Nx (s:={ s with heap:=h',toks:=tk }) (n:="range_iterator") st' rfl rfl (by decide) ⟨.int (lo+i),H,I1,⟨t,?_⟩,⟨rfl,rfl⟩,st',λ b hb=>(hf b hb).1⟩⟩;rw [Int.mul_one]
  done:=by
    intro X hP hw hK hc i pins s σ H E I hf st hg;subst hP hw hK;obtain ⟨f0,f1,f2,f3,f4,f5⟩:=hf it (by simp);exact wpAny_pyNext_range_end (I.ok.hd hc) st (by have:n<=i:=hg;omega) λ h' eb=>⟨rfl,I.turned (t':=s.toks) (λ b o hb e=>eb b o hb e) f0 f1 f3 f4 f5⟩
  self:=λ _ _ _ _ _ st h=>wpAny_pyIter_rangeiter st h
section
variable {X:Cx} {tg:Expr}
def NM (K:PySem.W.Frag) (tl:TE):TI:=λ σ H R=>tl σ H λ x H1=>∃ a,x= .ref a/\(∃ xs,SqL K H1 a xs)/\R (Itl K a) H1
def R7 (K:PySem.W.Frag) (tl:TE):TI:=λ σ H R=>tl σ H λ x H1=>∃ a,x= .ref a/\(∃ xs,SqT K H1 a xs)/\R (Itt K a) H1
theorem OO {l:Expr} {tl:TE} (hl:PE X l tl):PI X tg l (NM X.K tl):=by
  intro pins s σ H R I h;refine thn (hl pins s σ H _ I h) λ v s1 ⟨x,H1,I1,r1,q1⟩=> ?_;obtain ⟨a,e,⟨xs,hq⟩,q⟩:=q1;subst e;cases r1;obtain ⟨its,rv,p,hz⟩:=I1.list hq;refine wpAny_pyIter_list p.isList ?_;refine ⟨s1.heap.objs.size,[s1.heap.objs.size],_,_,H1,rfl,I1.kept (t':=s1.toks) λ b o e=>Aa4 _ e,HR a _,⟨_,Ab3 _ rfl,rfl,rfl⟩,λ b hb=> ?_,q⟩;have e:b=s1.heap.objs.size:=by simpa using hb
  subst e;exact I1.fpOk (Aa6 _) (I1.hok.fresh (Aa6 _))
theorem RY {l:Expr} {tl:TE} (hl:PE X l tl):PI X tg l (R7 X.K tl):=by
  intro pins s σ H R I h;refine thn (hl pins s σ H _ I h) λ v s1 ⟨x,H1,I1,r1,q1⟩=> ?_;obtain ⟨a,e,⟨xs,hq⟩,q⟩:=q1;subst e;cases r1;obtain ⟨its,rv,p,hz⟩:=I1.tuple hq;refine wpAny_pyIter_tuple (show s1.heap.IsTuple a its.toArray from p) ?_;refine ⟨s1.heap.objs.size,[s1.heap.objs.size],_,_,H1,rfl,I1.kept (t':=s1.toks) λ b o e=>Aa4 _ e,F4 a _,⟨_,Ab3 _ rfl,rfl,rfl⟩,λ b hb=> ?_,q⟩;have e:b=s1.heap.objs.size:=by simpa using hb
  subst e;exact I1.fpOk (Aa6 _) (I1.hok.fresh (Aa6 _))
theorem JQ {pins:List (Addr × Obj)} {σ:St} {H:Hp} {s:Shared} {R:It->Hp->Prop} {E:Value->Shared->Prop} {lo hi:Int} {t u v:Tok} {tk:Nat} (I:Inv X pins σ H s) (h1: -(2 ^ 62)<=lo) (h2:lo<2 ^ 62) (h3: -(2 ^ 62)<=hi) (h4:hi<2 ^ 62)
    (q:R (Itr lo (hi - lo).toNat) H):wpAny (model X.prog X.w) X.A (pyIter (.ref s.heap.objs.size)) (PIE X pins σ tg R) E { s with heap:=s.heap.push { cls:= .type "range",data:= .fields #[.int lo t, .int hi u, .int 1 v] },toks:=tk }:=by
  refine wpAny_pyIter_range (IsRange.new ..) (small_one h1 h2 h3 h4) ?_;have I1:Inv X pins σ H { s with heap:=s.heap.push { cls:= .type "range",data:= .fields #[.int lo t, .int hi u, .int 1 v] },toks:=tk }:=I.kept λ b o e=>Aa4 _ e;refine ⟨(s.heap.push { cls:= .type "range",data:= .fields #[.int lo t, .int hi u, .int 1 v] }).objs.size,[(s.heap.push { cls:= .type "range",data:= .fields #[.int lo t, .int hi u, .int 1 v] }).objs.size],_,_,H,rfl,
    I1.kept (t':=tk) λ b o e=>Aa4 _ e,Ki _ lo (hi - lo).toNat,?_,λ b hb=> ?_,q⟩
  · have e1:lo+((0:Nat):Int)*1=lo:=by simp
    have e2:(((hi - lo).toNat:Nat):Int) - ((0:Nat):Int)=Builtin.Range.rangeSize lo hi 1:=by rw [rangeSize_one];split <;> omega
    show IsRangeIter _ _ (lo+((0:Nat):Int)*1) ((((hi - lo).toNat:Nat):Int) - ((0:Nat):Int)) 1;rw [e1,e2];exact Ab3 _ rfl
  · have e:b=(s.heap.push { cls:= .type "range",data:= .fields #[.int lo t, .int hi u, .int 1 v] }).objs.size:=by simpa using hb
    subst e;exact I1.fpOk (Aa6 _) (I1.hok.fresh (Aa6 _))
def QD (ta:TA):TI:=λ σ H R=>ta σ H λ vs H1=>∃ j:Int,vs=[.int j]/\ -(2 ^ 62)<=j/\j<2 ^ 62/\R (Itr 0 j.toNat) H1
def QL (ta:TA):TI:=λ σ H R=>ta σ H λ vs H1=>∃ i j:Int,vs=[.int i, .int j]/\(-(2 ^ 62)<=i/\i<2 ^ 62/\ -(2 ^ 62)<=j/\j<2 ^ 62)/\R (Itr i (j - i).toNat) H1
theorem AE {a:Expr} {ta:TA} {p pos:Pos} (hg:Gl X "range") (hm:X.mg "range"=none) (ha:PA X [a] ta) (hs:starEach [a] X.env=[(false,eval a X.env)]:=by rfl):PI X tg (.Call (.Name "range" p) [a] [] pos) (QD ta):=by
  intro pins s σ H R I h;refine Call_ (BX I hg hm boot_range (PyProof.Rows.callWith_type1 (thn (ha pos pins s σ H _ I h) λ us s1 ⟨vs,H1,I1,r1,q1⟩=> ?_) hs rfl));obtain ⟨j,e,q1,q2,q⟩:=q1;subst e;cases r1 with
  | cons r rr=>
    cases rr;obtain ⟨t,rfl⟩:=r;exact call_range_1 (JQ I1 (by omega) (by omega) q1 q2 (by simpa using q))
theorem L1 {a b:Expr} {ta:TA} {p pos:Pos} (hg:Gl X "range") (hm:X.mg "range"=none) (ha:PA X [a,b] ta) (hs:starEach [a,b] X.env=[(false,eval a X.env),(false,eval b X.env)]:=by rfl) (hs2:starEach [b] X.env=[(false,eval b X.env)]:=by rfl):
    PI X tg (.Call (.Name "range" p) [a,b] [] pos) (QL ta):=by
  intro pins s σ H R I h;refine Call_ (BX I hg hm boot_range (PyProof.Rows.callWith_type1 (thn (ha pos pins s σ H _ I h) λ us s1 ⟨vs,H1,I1,r1,q1⟩=> ?_) (by rw [hs,hs2]) (by rw [hs2];rfl)));obtain ⟨i,j,e,⟨q1,q2,q3,q4⟩,q⟩:=q1;subst e;cases r1 with
  | cons r rr=>
    cases rr with
    | cons r' rr=>
      cases rr;obtain ⟨t,rfl⟩:=r;obtain ⟨t',rfl⟩:=r';exact call_range_2 (JQ I1 q1 q2 q3 q4 q)
def Vv (wi:TI) (g:TG) (tb:TS):TS:=λ D σ H=>wi σ H λ J H1=>∃ W:Nat->Nat->St->Hp->Prop,(∃ m,W 0 m σ H1)/\∀ i m σ H,W i m σ H->
  (J.stop i H/\D.nx σ H)\/(J.go i H/\∃ N:St->Hp->Prop,(∀ σ' H',N σ' H'->∃ m',m'<m/\W (i+1) m' σ' H')/\∀ x H',J.yld i H x H'->g x σ H' λ σ2 H2=>tb { D with nx:=N,ct:=N,bk:=D.nx } σ2 H2)
def E4 (fp:List Addr) (h:Heap):List (Addr × Obj):=fp.filterMap λ b=>(h.get? b).map λ o=>(b,o)
theorem Bv {fp:List Addr} {h:Heap} {b:Addr} {o:Obj} (hb:b∈fp) (e:h.get? b=some o):(b,o)∈E4 fp h:=List.mem_filterMap.mpr ⟨b,hb,by rw [e];rfl⟩
theorem Md {fp:List Addr} {h:Heap} {p:Addr × Obj} (hp:p∈E4 fp h):p.1∈fp/\h.get? p.1=some p.2:=by
  obtain ⟨b,hb,e⟩:=List.mem_filterMap.mp hp;cases q:h.get? b with
  | none=>rw [q] at e;cases e
  | some o=>
    rw [q] at e;have e':(b,o)=p:=Ae7.inj e;subst e';exact ⟨hb,q⟩
theorem Inv.pinned {pins:List (Addr × Obj)} {σ:St} {H:Hp} {s:Shared} {fp:List Addr} (I:Inv X pins σ H s) (hf:∀ b∈fp,Ce X pins H b) (ho:∀ b∈fp,∃ o,s.heap.get? b=some o/\∀ v,o.data≠ .cell v):Inv X (pins++E4 fp s.heap) σ H s:=
  I.pins_of λ p hp=>(Ac4.mp hp).elim (λ z=>I.pin p (Ac1 _ z)) λ z=>by
    obtain ⟨hb,e⟩:=Md z;obtain ⟨f0,f1,f2,_⟩:=hf p.1 hb;obtain ⟨o,e',d⟩:=ho p.1 hb;rw [e] at e';cases e';exact ⟨e,f0,f1,f2,d⟩
theorem Inv.unpinned {pins pl:List (Addr × Obj)} {σ:St} {H:Hp} {s:Shared} (I:Inv X (pins++pl) σ H s):Inv X pins σ H s:=I.pins_of λ p hp=>I.pin p (Ac1 _ (Ah5 _ hp))
theorem AQ {iter:Expr} {body:List Stmt} {wi:TI} {g:TG} {tb:TS} {pos:Pos} (hp:PassesOwn (model X.prog X.w) X.A X.env X.xe) (hc:X.calm=true) (hi:PI X tg iter wi) (hg:PG X tg g) (hb:PSs X body tb)
    (hs:∀ x,foldedSetIterable iter X.env x=pure x:=by intro _;rfl):PS X (.For tg iter body [] pos) (Vv wi g tb):=by
  intro pins s σ H D I h;refine wpAny_For (thn (hi pins s σ H _ I h) λ v s1 h1=>thn h1 λ itv s2 h2=> ?_) hs;obtain ⟨it,fp,tn,J,H2,e,I2,T,st2,f2,W,⟨m0,w0⟩,turn⟩:=h2;subst e;have stat:∀ {H':Hp},(∀ b∈fp,H' b=none)->∀ b∈fp,Ce X pins H' b:=λ hn b hb=>⟨hn b hb,(f2 b hb).2⟩;refine codeAny_forLoop_any (λ n s'=>∃ i σ' H',Inv X pins σ' H' s'/\tn i s'.heap/\(∀ b∈fp,H' b=none)/\W i n σ' H') ?_ m0 ⟨0,σ,H2,I2,st2,λ b hb=>(f2 b hb).1,w0⟩;rintro n s3 ⟨i,σ3,H3,I3,st3,fr3,w3⟩;rcases turn i n σ3 H3 w3 with ⟨stop,qn⟩ | ⟨go,N,hN,step⟩
  · refine wpAny_passesOwn hp (thn (T.done X rfl rfl rfl hc i pins s3 σ3 H3 X.xe I3 (stat fr3) st3 stop) λ r s4 ⟨hr,I4⟩=> ?_);subst hr;exact wpAny_execs_nil ⟨σ3,H3,I4,qn⟩
  · refine wpAny_passesOwn hp (thn (T.item X rfl rfl rfl hc i pins s3 σ3 H3 X.xe I3 (stat fr3) st3 go) λ r s4 ⟨u,hr,h4⟩=> ?_);subst hr;refine wpAny_passesOwn hp (thn h4 λ _ s5 ⟨x,H5,I5,r5,y5,st5,fr5⟩=> ?_);have I5':=I5.pinned (stat fr5) (T.obj _ _ st5);refine wpAny_passesOwn hp (thn (hg _ s5 σ3 H5 x u _ I5' r5 (step x H5 y5)) λ _ s6 ⟨σ6,H6,I6,q6⟩=> ?_);refine wpAny_passesOwn hp (thn (hb _ s6 σ6 H6 _ I6 q6) λ f s7 q7=> ?_);have again:∀ {σ7:St} {H7:Hp},Inv X (pins++E4 fp s5.heap) σ7 H7 s7->N σ7 H7->∃ m,m<n/\∃ i σ' H',Inv X pins σ' H' s7/\tn i s7.heap/\(∀ b∈fp,H' b=none)/\W i m σ' H':=λ {σ7 H7} I7 n7=>by
      obtain ⟨m',hm,w7⟩:=hN σ7 H7 n7;refine ⟨m',hm,i+1,σ7,H7,I7.unpinned,T.keep _ _ _ st5 λ b hb o e=>(I7.pin (b,o) (Ac1 _ (Ac1 _ (Bv hb e)))).1,λ b hb=> ?_,w7⟩;obtain ⟨o,e,d⟩:=T.obj _ _ st5 b hb;exact (I7.pin (b,o) (Ac1 _ (Ac1 _ (Bv hb e)))).2.1
    cases f with
    | next=>obtain ⟨σ7,H7,I7,n7⟩:=q7;exact again I7 n7
    | cont=>obtain ⟨σ7,H7,I7,n7⟩:=q7;exact again I7 n7
    | brk=>obtain ⟨σ7,H7,I7,q7⟩:=q7;exact ⟨σ7,H7,I7.unpinned,q7⟩
    | ret v=>obtain ⟨x7,σ7,H7,I7,r7,q7⟩:=q7;exact ⟨x7,σ7,H7,I7.unpinned,r7,q7⟩
end
abbrev R2:=V->V->Hp->VK->Prop
def OpR (X:Cx) (f:Value->Value->Sem Value) (r:R2):Prop:=
  ∀ (pins:List (Addr × Obj)) (s:Shared) (σ:St) (H:Hp) (x y:V) (v u:Value) (Q:VK),Inv X pins σ H s->RelV x v->RelV y u->r x y H Q->
    wpAny (model X.prog X.w) X.A (f v u) (EP X pins σ Q) X.xe s
def UnR (X:Cx) (f:Value->Sem Value) (r:V->Hp->VK->Prop):Prop:=
  ∀ (pins:List (Addr × Obj)) (s:Shared) (σ:St) (H:Hp) (x:V) (v:Value) (Q:VK),Inv X pins σ H s->RelV x v->r x H Q->
    wpAny (model X.prog X.w) X.A (f v) (EP X pins σ Q) X.xe s
def Bh (X:Cx) (f:Value) (r:List V->Hp->VK->Prop):Prop:=
  ∀ (pins:List (Addr × Obj)) (s:Shared) (σ:St) (H:Hp) (xs:List V) (us:List Value) (Q:VK),Inv X pins σ H s->Vals xs us->r xs H Q->
    wpAny (model X.prog X.w) X.A (call f us) (EP X pins σ Q) X.xe s
def Xg (X:Cx) (r:V->Hp->(Bool->Hp->Prop)->Prop):Prop:=
  ∀ (pins:List (Addr × Obj)) (s:Shared) (σ:St) (H:Hp) (x:V) (v:Value) (Q:Bool->Hp->Prop),Inv X pins σ H s->RelV x v->r x H Q->
    wpAny (model X.prog X.w) X.A (truthy v) (TP X pins σ Q) X.xe s
def tOp (r:R2) (ta tb:TE):TE:=λ σ H Q=>ta σ H λ x H1=>tb σ H1 λ y H2=>r x y H2 Q
def tUn (r:V->Hp->VK->Prop) (ta:TE):TE:=λ σ H Q=>ta σ H λ x H1=>r x H1 Q
def rI (C:Int->Int->Prop) (g:Int->Int->V):R2:=λ x y H Q=>∃ i j,x= .int i/\y= .int j/\C i j/\Q (g i j) H
def rI0 (g:Int->Int->V):R2:=λ x y H Q=>∃ i j,x= .int i/\y= .int j/\Q (g i j) H
def rU (g:Int->V):V->Hp->VK->Prop:=λ x H Q=>∃ i,x= .int i/\Q (g i) H
section
variable {X:Cx} {a b c:Expr} {ta tb tc:TE} {pos:Pos}
theorem RQ (ha:PE X a ta) (hb:PE X b tb) {pins:List (Addr × Obj)} {s:Shared} {σ:St} {H:Hp} {R:V->V->Hp->Prop} (I:Inv X pins σ H s)
    (h:ta σ H λ x H1=>tb σ H1 λ y H2=>R x y H2) {Q:Value->Shared->Prop} {f:Value->Value->Sem Value}
    (hf:∀ v u s2 x y H2,Inv X pins σ H2 s2->RelV x v->RelV y u->R x y H2->wpAny (model X.prog X.w) X.A (f v u) Q X.xe s2):
    wpAny (model X.prog X.w) X.A (eval a X.env) (λ v s₁=>wpAny (model X.prog X.w) X.A (eval b X.env) (λ u s₂=>wpAny (model X.prog X.w) X.A (f v u) Q X.xe s₂) X.xe s₁) X.xe s:=by
  refine thn (ha pins s σ H _ I h) λ v s1 ⟨x,H1,I1,r1,q1⟩=> ?_;refine thn (hb pins s1 σ H1 _ I1 q1) λ u s2 ⟨y,H2,I2,r2,q2⟩=> ?_;exact hf v u s2 x y H2 I2 r1 r2 q2
theorem Al {op:Operator} {r:R2} (ho:OpR X (binaryOp op) r) (ha:PE X a ta) (hb:PE X b tb):PE X (.BinOp a op b pos) (tOp r ta tb):=by
  intro pins s σ H Q I h;exact wpAny_BinOp (RQ ha hb I h λ v u s2 x y H2 I2 rx ry q=>ho pins s2 σ H2 x y v u Q I2 rx ry q)
theorem WJ {op:UnaryOp} {r:V->Hp->VK->Prop} (ho:UnR X (unaryOp op) r) (ha:PE X a ta):PE X (.UnaryOp op a pos) (tUn r ta):=by
  intro pins s σ H Q I h;exact UnaryOp_ (thn (ha pins s σ H _ I h) λ v s1 ⟨x,H1,I1,r1,q1⟩=>ho pins s1 σ H1 x v Q I1 r1 q1)
theorem opI {f:Value->Value->Sem Value} {C:Int->Int->Prop} {g:Int->Int->Int}
    (rule:∀ (i j:Int) (t u:Tok) (s:Shared) (Q:Value->Shared->Prop) (E:Value->Shared->Prop),C i j->Q (.int (g i j) s.toks) { s with toks:=s.toks+1 }->wpAny (model X.prog X.w) X.A (f (.int i t) (.int j u)) Q E s):
    OpR X f (rI C λ i j=> .int (g i j)):=by
  intro pins s σ H x y v u Q I rx ry h;obtain ⟨i,j,rfl,rfl,hc,q⟩:=h;obtain ⟨t,rfl⟩:=rx;obtain ⟨t',rfl⟩:=ry;exact rule i j t t' s _ _ hc ⟨.int (g i j),H,I.tok _,⟨_,rfl⟩,q⟩
theorem MJ {f:Value->Value->Sem Value} {g:Int->Int->Int}
    (rule:∀ (i j:Int) (t u:Tok) (s:Shared) (Q:Value->Shared->Prop) (E:Value->Shared->Prop),Q (.int (g i j) s.toks) { s with toks:=s.toks+1 }->wpAny (model X.prog X.w) X.A (f (.int i t) (.int j u)) Q E s):
    OpR X f (rI0 λ i j=> .int (g i j)):=by
  intro pins s σ H x y v u Q I rx ry h;obtain ⟨i,j,rfl,rfl,q⟩:=h;obtain ⟨t,rfl⟩:=rx;obtain ⟨t',rfl⟩:=ry;exact rule i j t t' s _ _ ⟨.int (g i j),H,I.tok _,⟨_,rfl⟩,q⟩
theorem Sj {f:Value->Value->Sem Value} {g:Int->Int->Bool}
    (rule:∀ (i j:Int) (t u:Tok) (s:Shared) (Q:Value->Shared->Prop) (E:Value->Shared->Prop),Q (.bool (g i j)) s->wpAny (model X.prog X.w) X.A (f (.int i t) (.int j u)) Q E s):
    OpR X f (rI0 λ i j=> .bl (g i j)):=by
  intro pins s σ H x y v u Q I rx ry h;obtain ⟨i,j,rfl,rfl,q⟩:=h;obtain ⟨t,rfl⟩:=rx;obtain ⟨t',rfl⟩:=ry;exact rule i j t t' s _ _ ⟨.bl (g i j),H,I,rfl,q⟩
def Xo (i j:Int):Prop:=0<=j/\j<=1000000/\i.natAbs<2 ^ 64
def CMul (i j:Int):Prop:=(-(2 ^ 64)<i/\i<2 ^ 64)\/(-(2 ^ 64)<j/\j<2 ^ 64)
theorem CMul.ok {i j:Int} (h:CMul i j):IntMulOk i j:=by
  rcases h with ⟨h1,h2⟩ | ⟨h1,h2⟩
  · exact .of_left (intBits_le_64 h1 h2)
  · exact .of_right (intBits_le_64 h1 h2)
theorem J9 (k:Nat):(0:Int)<=2 ^ k:=by
  rw [two_pow_cast];exact Int.natCast_nonneg _
theorem AC:OpR X (binaryOp .Add) (rI0 λ i j=> .int (i+j)):=MJ λ _ _ _ _ _ _ _ q=>add_int q
theorem CT:OpR X (binaryOp .Sub) (rI0 λ i j=> .int (i - j)):=MJ λ _ _ _ _ _ _ _ q=>sub_int q
theorem Cf:OpR X (binaryOp .Mult) (rI CMul λ i j=> .int (i*j)):=opI λ _ _ _ _ _ _ _ hc q=>mul_int q hc.ok
theorem A7:OpR X (binaryOp .Mod) (rI (λ _ j=>0<j) λ i j=> .int (i%j)):=opI λ i j _ _ _ _ _ hc q=>by
  have h1:(0:Int)<j:=hc;exact mod_int' (by omega) (by rw [Int.fmod_eq_emod_of_nonneg i (by omega)];exact q)
theorem Eg:OpR X (binaryOp .LShift) (rI Xo λ i j=> .int (i*2 ^ j.toNat)):=opI λ _ _ _ _ _ _ _ hc q=>lshift_int_small hc.1 hc.2.1 hc.2.2 q
theorem N8:OpR X (binaryOp .RShift) (rI (λ _ j=>0<=j) λ i j=> .int (i / 2 ^ j.toNat)):=opI λ i j _ _ _ _ _ hc q=>
  rshift_int hc (by rw [Int.fdiv_eq_ediv_of_nonneg i (J9 _)];exact q)
theorem JZ:OpR X (binaryOp .BitAnd) (rI0 λ i j=> .int (Builtin.bitAnd i j)):=MJ λ _ _ _ _ _ _ _ q=>and_int q
theorem Q8:OpR X (binaryOp .BitXor) (rI0 λ i j=> .int (Builtin.bitXor i j)):=MJ λ _ _ _ _ _ _ _ q=>xor_int q
theorem Po:OpR X (inplaceOp .Add) (rI0 λ i j=> .int (i+j)):=MJ λ _ _ _ _ _ _ _ q=>iadd_int q
theorem Sb:OpR X (inplaceOp .BitOr) (rI0 λ i j=> .int (Builtin.bitOr i j)):=MJ λ _ _ _ _ _ _ _ q=>ior_int q
theorem unI {f:Value->Sem Value} {g:Int->Int}
    (rule:∀ (i:Int) (t:Tok) (s:Shared) (Q:Value->Shared->Prop) (E:Value->Shared->Prop),Q (.int (g i) s.toks) { s with toks:=s.toks+1 }->wpAny (model X.prog X.w) X.A (f (.int i t)) Q E s):
    UnR X f (rU λ i=> .int (g i)):=by
  intro pins s σ H x v Q I rx h;obtain ⟨i,rfl,q⟩:=h;obtain ⟨t,rfl⟩:=rx;exact rule i t s _ _ ⟨.int (g i),H,I.tok _,⟨_,rfl⟩,q⟩
theorem SD:UnR X (unaryOp .USub) (rU λ i=> .int (-i)):=unI λ _ _ _ _ _ q=>neg_int q
end
def UC:V->V->Bool
  | .non, .non=>true | .non, .int _=>true | .int _, .non=>true | .non, .bl _=>true | .bl _, .non=>true | .non, .str _=>true | .str _, .non=>true
  | .int _, .int _=>true | .bl _, .bl _=>true | .str _, .str _=>true | .byt _, .byt _=>true
  | .int _, .str _=>true | .str _, .int _=>true | .bl _, .str _=>true | .str _, .bl _=>true
  | _,_=>false
def rEq:R2:=λ x y H Q=>UC x y=true/\Q (.bl (decide (x=y))) H
def rNe:R2:=λ x y H Q=>UC x y=true/\Q (.bl (!decide (x=y))) H
theorem LI {i j:Int}:decide (V.int i=V.int j)=(i == j):=by
  rw [Ae2];simp
theorem NP {i j:Bool}:decide (V.bl i=V.bl j)=(i == j):=by
  rw [Ae2];simp
theorem KI {i j:Str}:decide (V.str i=V.str j)=(i == j):=by
  rw [Ae2];simp
theorem KR {i j:Array UInt8}:decide (V.byt i=V.byt j)=(i.toList == j.toList):=by
  rw [Ae2];cases i;cases j;simp
section
variable {X:Cx} {a b c:Expr} {ta tb tc:TE} {pos:Pos}
theorem Ay {pins:List (Addr × Obj)} {σ:St} {H:Hp} {s:Shared} {Q:VK} {k k':Bool} (I:Inv X pins σ H s) (q:Q (.bl k) H) (e:k=k'):EP X pins σ Q (.bool k') s:=by
  subst e;exact ⟨.bl k,H,I,rfl,q⟩
theorem Cz:OpR X (compareOp .Eq) rEq:=by
  intro pins s σ H x y v u Q I rx ry h;obtain ⟨hs,q⟩:=h;cases x with
  | non=>
    cases rx;cases y with
    | non=>cases ry;exact PySem.EqNone.eq_none_none (Ay I q (by simp))
    | bl j=>cases ry;exact PySem.EqNone.eq_none_bool (Ay I q (by simp))
    | int j=>obtain ⟨t',rfl⟩:=ry;exact PySem.EqNone.eq_none_int (Ay I q (by simp))
    | str j=>obtain ⟨t',rfl⟩:=ry;exact PySem.EqNone.eq_none_str (Ay I q (by simp))
    | _=>exact absurd (show false=true from hs) Ab4
  | bl i=>
    cases rx;cases y with
    | non=>cases ry;exact PySem.EqNone.eq_bool_none (Ay I q (by simp))
    | bl j=>cases ry;exact eq_bool (Ay I q NP)
    | str j=>obtain ⟨t',rfl⟩:=ry;exact PySem.EqMixed.eq_bool_str (Ay I q (by simp))
    | _=>exact absurd (show false=true from hs) Ab4
  | int i=>
    obtain ⟨t,rfl⟩:=rx;cases y with
    | non=>cases ry;exact PySem.EqNone.eq_int_none (Ay I q (by simp))
    | int j=>obtain ⟨t',rfl⟩:=ry;exact eq_int (Ay I q LI)
    | str j=>obtain ⟨t',rfl⟩:=ry;exact PySem.EqMixed.eq_int_str (Ay I q (by simp))
    | _=>exact absurd (show false=true from hs) Ab4
  | str i=>
    obtain ⟨t,rfl⟩:=rx;cases y with
    | non=>cases ry;exact PySem.EqNone.eq_str_none (Ay I q (by simp))
    | bl j=>cases ry;exact PySem.EqMixed.eq_str_bool (Ay I q (by simp))
    | int j=>obtain ⟨t',rfl⟩:=ry;exact PySem.EqMixed.eq_str_int (Ay I q (by simp))
    | str j=>obtain ⟨t',rfl⟩:=ry;exact eq_str (Ay I q KI)
    | _=>exact absurd (show false=true from hs) Ab4
  | byt i=>
    obtain ⟨t,rfl⟩:=rx;cases y with
    | byt j=>obtain ⟨t',rfl⟩:=ry;exact PySem.W.eq_bytes (Ay I q KR)
    | _=>exact absurd (show false=true from hs) Ab4
  | _=>cases y <;> exact absurd (show false=true from hs) Ab4
theorem IU:OpR X (compareOp .NotEq) rNe:=by
  intro pins s σ H x y v u Q I rx ry h;obtain ⟨hs,q⟩:=h;cases x with
  | non=>
    cases rx;cases y with
    | non=>cases ry;exact PySem.EqNone.ne_none_none (Ay I q (by simp))
    | bl j=>cases ry;exact PySem.EqNone.ne_none_bool (Ay I q (by simp))
    | int j=>obtain ⟨t',rfl⟩:=ry;exact PySem.EqNone.ne_none_int (Ay I q (by simp))
    | str j=>obtain ⟨t',rfl⟩:=ry;exact PySem.EqNone.ne_none_str (Ay I q (by simp))
    | _=>exact absurd (show false=true from hs) Ab4
  | bl i=>
    cases rx;cases y with
    | non=>cases ry;exact PySem.EqNone.ne_bool_none (Ay I q (by simp))
    | bl j=>cases ry;exact ne_bool (Ay I q (congrArg not NP))
    | str j=>obtain ⟨t',rfl⟩:=ry;exact PySem.EqMixed.ne_bool_str (Ay I q (by simp))
    | _=>exact absurd (show false=true from hs) Ab4
  | int i=>
    obtain ⟨t,rfl⟩:=rx;cases y with
    | non=>cases ry;exact PySem.EqNone.ne_int_none (Ay I q (by simp))
    | int j=>obtain ⟨t',rfl⟩:=ry;exact ne_int (Ay I q (congrArg not LI))
    | str j=>obtain ⟨t',rfl⟩:=ry;exact PySem.EqMixed.ne_int_str (Ay I q (by simp))
    | _=>exact absurd (show false=true from hs) Ab4
  | str i=>
    obtain ⟨t,rfl⟩:=rx;cases y with
    | non=>cases ry;exact PySem.EqNone.ne_str_none (Ay I q (by simp))
    | bl j=>cases ry;exact PySem.EqMixed.ne_str_bool (Ay I q (by simp))
    | int j=>obtain ⟨t',rfl⟩:=ry;exact PySem.EqMixed.ne_str_int (Ay I q (by simp))
    | str j=>obtain ⟨t',rfl⟩:=ry;exact ne_str (Ay I q (congrArg not KI))
    | _=>exact absurd (show false=true from hs) Ab4
  | byt i=>
    obtain ⟨t,rfl⟩:=rx;cases y with
    | byt j=>obtain ⟨t',rfl⟩:=ry;exact PySem.W.ne_bytes (Ay I q (congrArg not KR))
    | _=>exact absurd (show false=true from hs) Ab4
  | _=>cases y <;> exact absurd (show false=true from hs) Ab4
theorem Nh:OpR X (compareOp .Lt) (rI0 λ i j=> .bl (decide (i<j))):=Sj λ _ _ _ _ _ _ _ q=>lt_int q
theorem QB:OpR X (compareOp .LtE) (rI0 λ i j=> .bl (decide (i<=j))):=Sj λ _ _ _ _ _ _ _ q=>le_int q
theorem QF:OpR X (compareOp .Gt) (rI0 λ i j=> .bl (decide (j<i))):=Sj λ _ _ _ _ _ _ _ q=>gt_int q
theorem Sh:OpR X (compareOp .Is) (λ x y H Q=>y= .non/\Q (.bl (decide (x= .non))) H):=by
  intro pins s σ H x y v u Q I rx ry h;obtain ⟨rfl,q⟩:=h;cases ry;refine is_none_gen (Ay I q ?_);cases x <;> first
    | (cases rx;rfl)
    | (obtain ⟨t,rfl⟩:=rx;rfl)
theorem Aw (b:Expr) {op:CmpOp} (h:op≠ .In:=by decide) (h2:op≠ .NotIn:=by decide):behindInMarks op b=false:=by
  have e1:(op == CmpOp.In)=false:=by cases op <;> first | rfl | exact absurd rfl h
  have e2:(op == CmpOp.NotIn)=false:=by cases op <;> first | rfl | exact absurd rfl h2
  cases b <;> simp [behindInMarks,e1,e2]
theorem EA {op:CmpOp} {r:R2} (ho:OpR X (compareOp op) r) (ha:PE X a ta) (hb:PE X b tb) (hm:behindInMarks op b=false):PE X (.Compare a [op] [b] pos) (tOp r ta tb):=by
  intro pins s σ H Q I h;exact wpAny_Compare1 (RQ ha hb I h λ v u s2 x y H2 I2 rx ry q=>ho pins s2 σ H2 x y v u Q I2 rx ry q) hm
def Qs (t:TE):TT:=λ σ H Q=>t σ H λ x H'=>∃ k,x= .bl k/\Q k H'
theorem As {op:CmpOp} {r:R2} (ho:OpR X (compareOp op) r) (ha:PE X a ta) (hb:PE X b tb) (hm:behindInMarks op b=false):PT X (.Compare a [op] [b] pos) (Qs (tOp r ta tb)):=by
  intro pins s σ H Q I h;refine wpAny_isTrue_Compare1 (thn (ha pins s σ H _ I h) λ v s1 ⟨x,H1,I1,r1,q1⟩=>thn (hb pins s1 σ H1 _ I1 q1) λ u s2 ⟨y,H2,I2,r2,q2⟩=>
    thn (ho pins s2 σ H2 x y v u _ I2 r1 r2 q2) λ c s3 ⟨z,H3,I3,r3,k,e,q3⟩=> ?_) hm
  subst e;cases r3;exact Ai0 ⟨H3,I3,q3⟩
def N7 (r r':R2) (ta tb tc:TE):TE:=λ σ H Q=>ta σ H λ x H1=>tb σ H1 λ y H2=>r x y H2 λ z H3=>∃ k,z= .bl k/\
  (if k=true then tc σ H3 λ w' H4=>r' y w' H4 Q else Q (.bl false) H3)
theorem IT {op op':CmpOp} {r r':R2} (ho:OpR X (compareOp op) r) (ho':OpR X (compareOp op') r') (ha:PE X a ta) (hb:PE X b tb) (hc:PE X c tc)
    (hm:lastMarks [op,op'] [b,c]=false:=by with_unfolding_all rfl):PE X (.Compare a [op,op'] [b,c] pos) (N7 r r' ta tb tc):=by
  intro pins s σ H Q I h;refine Compare_chain (thn (ha pins s σ H _ I h) λ v s1 ⟨x,H1,I1,r1,q1⟩=>chain_link (thn (hb pins s1 σ H1 _ I1 q1) λ u s2 ⟨y,H2,I2,r2,q2⟩=>
    thn (ho pins s2 σ H2 x y v u _ I2 r1 r2 q2) λ d s3 ⟨z,H3,I3,r3,k,e,q3⟩=> ?_)) hm
  subst e;cases r3;refine Ai0 ?_;cases k with
  | false=>exact ite_ff ⟨.bl false,H3,I3,rfl,q3⟩
  | true=>exact ite_tt (chain_last (thn (hc pins s3 σ H3 _ I3 q3) λ w' s4 ⟨z',H4,I4,r4,q4⟩=>ho' pins s4 σ H4 y z' u w' Q I4 r2 r4 q4))
def O2 (K:PySem.W.Frag) (x:V) (H:Hp) (k:Bool):Prop:=
  match x with
  | .non=>k=false
  | .bl b=>k=b
  | .int i=>k=(i != 0)
  | .str y=>y.length<=sizeLine/\k=((y.length:Int) != 0)
  | .byt y=>y.size<=sizeLine/\k=((y.size:Int) != 0)
  | .ref p=>(∃ xs,SqL K H p xs/\k= !xs.isEmpty)\/(∃ xs,SqT K H p xs/\k= !xs.isEmpty)\/∃ kvs,H p=some (.dK kvs)/\k= !kvs.isEmpty
  | _=>False
theorem KD {κ:Type} {kvs:List (κ × V)} {vs:List (κ × Value)} (r:KV kvs vs):(!vs.isEmpty)= !kvs.isEmpty:=by
  cases r <;> rfl
theorem Gw {xs:List V} {its:List Value} (r:Vals xs its):(!its.toArray.isEmpty)= !xs.isEmpty:=by
  cases r <;> simp
theorem Iw:(sizeLine:Nat)<2 ^ 63:=by rw [sizeLine_eq];decide
theorem R0:Xg X (λ x H Q=>∃ k,O2 X.K x H k/\Q k H):=by
  intro pins s σ H x v Q I rx h;obtain ⟨k,e,q⟩:=h;have hl:=Iw;have hs:sizeLine=16777216:=sizeLine_eq;cases x with
  | non=>
    cases rx;have e':k=false:=e;subst e';exact truthy_none ⟨H,I,q⟩
  | bl b=>
    cases rx;have e':k=b:=e;subst e';exact Ai0 ⟨H,I,q⟩
  | int i=>
    obtain ⟨t,rfl⟩:=rx;have e':k=(i != 0):=e;subst e';exact PySem.P.truthy_int ⟨H,I,q⟩
  | str y=>
    obtain ⟨t,rfl⟩:=rx;obtain ⟨hy,e'⟩:y.length<=sizeLine/\k=((y.length:Int) != 0):=e;subst e';exact PySem.P.truthy_str (by omega) ⟨H,I.tok _,q⟩
  | byt y=>
    obtain ⟨t,rfl⟩:=rx;obtain ⟨hy,e'⟩:y.size<=sizeLine/\k=((y.size:Int) != 0):=e;subst e';exact PySem.W.truthy_bytes (by omega) ⟨H,I.tok _,q⟩
  | ref p=>
    cases rx;have e':(∃ xs,SqL X.K H p xs/\k= !xs.isEmpty)\/(∃ xs,SqT X.K H p xs/\k= !xs.isEmpty)\/∃ kvs,H p=some (.dK kvs)/\k= !kvs.isEmpty:=e;rcases e' with ⟨xs,hx,e'⟩ | ⟨xs,hx,e'⟩ | ⟨kvs,hx,e'⟩
    · subst e';obtain ⟨its,r,pl,hz⟩:=I.list hx;have hlen:=r.length;exact wpAny_truthy_list pl.isList (by simp only [Ab8];omega) ⟨H,I.tok _,by rw [Gw r];exact q⟩
    · subst e';obtain ⟨its,r,pl,hz⟩:=I.tuple hx;have hlen:=r.length;exact truthy_tuple pl (by simp only [Ab8];omega) ⟨H,I.tok _,by rw [Gw r];exact q⟩
    · subst e';obtain ⟨hz,hS,vs,r,m⟩:kvs.length<=sizeLine/\(p == sysModules)=false/\∃ vs,KV kvs vs/\s.heap.DictOf (AF X.prog X.w) p vs:=I.hok p _ hx;have hlen:kvs.length=vs.length:=Paired.length r;exact wpAny_truthy_dict hS m (by omega) ⟨H,I.tok _,by rw [KD r];exact q⟩
  | _=>exact (show False from e).elim
theorem Ds {x:V} {us:List Value} (r:Vals [x] us):∃ u,us=[u]/\RelV x u:=by
  cases r with
  | cons r1 r2=>cases r2;exact ⟨_,rfl,r1⟩
theorem QE {x y:V} {us:List Value} (r:Vals [x,y] us):∃ u w',us=[u,w']/\RelV x u/\RelV y w':=by
  cases r with
  | cons r1 r2=>
    cases r2 with
    | cons r3 r4=>cases r4;exact ⟨_,_,rfl,r1,r3⟩
theorem Mo:Bh X (.type "int") (λ xs H Q=>(∃ i,xs=[.int i]/\Q (.int i) H)\/∃ k,xs=[.bl k]/\Q (.int (if k then 1 else 0)) H):=by
  intro pins s σ H xs us Q I r h;rcases h with ⟨i,rfl,q⟩ | ⟨k,rfl,q⟩
  · obtain ⟨u,rfl,t,rfl⟩:=Ds r;exact call_int_int ⟨.int i,H,I,⟨_,rfl⟩,q⟩
  · obtain ⟨u,rfl,r1⟩:=Ds r;cases r1;exact call_int_bool ⟨.int (if k then 1 else 0),H,I.tok _,⟨_,rfl⟩,q⟩
def VO (K:PySem.W.Frag) (x:V) (H:Hp) (n:Nat):Prop:=
  match x with
  | .str y=>y.length<=sizeLine/\n=y.length
  | .byt y=>y.size<=sizeLine/\n=y.size
  | .ref p=>(∃ xs,SqL K H p xs/\n=xs.length)\/∃ xs,SqT K H p xs/\n=xs.length
  | _=>False
theorem Nn:Bh X (.builtin "len") (λ xs H Q=>∃ x n,xs=[x]/\VO X.K x H n/\Q (.int n) H):=by
  intro pins s σ H xs us Q I r h;obtain ⟨x,n,rfl,e,q⟩:=h;obtain ⟨u,rfl,rx⟩:=Ds r;have hl:=Iw;have hs:sizeLine=16777216:=sizeLine_eq;cases x with
  | str y=>
    obtain ⟨t,rfl⟩:=rx;obtain ⟨hy,e'⟩:y.length<=sizeLine/\n=y.length:=e;subst e';exact len_str (by omega) ⟨.int _,H,I.tok _,⟨_,rfl⟩,q⟩
  | byt y=>
    obtain ⟨t,rfl⟩:=rx;obtain ⟨hy,e'⟩:y.size<=sizeLine/\n=y.size:=e;subst e';exact PySem.W.len_bytes (by omega) ⟨.int _,H,I.tok _,⟨_,rfl⟩,q⟩
  | ref p=>
    cases rx;have e':(∃ xs,SqL X.K H p xs/\n=xs.length)\/∃ xs,SqT X.K H p xs/\n=xs.length:=e;rcases e' with ⟨xs,hx,e'⟩ | ⟨xs,hx,e'⟩
    · subst e';obtain ⟨its,r',pl,hz⟩:=I.list hx;have hlen:=r'.length;exact Calls.call_len_list pl.isList (by simp only [Ab8];omega) ⟨.int xs.length,H,I.tok _,⟨_,by simp only [Ab8];rw [hlen]⟩,q⟩
    · subst e';obtain ⟨its,r',pl,hz⟩:=I.tuple hx;have hlen:=r'.length;exact len_tuple pl (by simp only [Ab8];omega) ⟨.int xs.length,H,I.tok _,⟨_,by simp only [Ab8];rw [hlen]⟩,q⟩
  | _=>exact (show False from e).elim
end
structure ObjM (h:Heap) (x dx C:Addr) (mA:Str->Option Value):Prop where
  obj:h.get? x=some (PySem.W.instObj C dx)
  ns:h.Ns1 dx mA
  ne:dx≠x
theorem My {h:Heap} {dx:Addr} {mA:Str->Option Value} (n:h.Ns1 dx mA):∃ od,h.get? dx=some od/\∀ name,PySem.W.lookIn name od=some (mA name):=by
  obtain ⟨o,es,ep,ho,hd,hk,_,hm⟩:=n;refine ⟨o,ho,λ name=> ?_⟩;have e:=hm name;unfold nsFind findBy at e;rw [<-Array.find?_toList] at e;unfold PySem.W.lookIn;rw [hd];dsimp only;split
  · rename_i y q
    rw [q] at e;exact congrArg some e
  · rename_i q
    rw [q] at e;have a:es.toList.any (·.refKey)=false:=by
      rw [List.any_eq_false];intro y hy;obtain ⟨z,t,hkey⟩:=hk y (Array.mem_toList_iff.mp hy);simp [DictEntry.refKey,hkey]
    have a':¬ es.toList.any (·.refKey)=true:=by rw [a];exact Ab4
    rw [if_neg a'];exact congrArg some e
theorem ObjM.look {h:Heap} {x dx C:Addr} {mA:Str->Option Value} (I:ObjM h x dx C mA):∃ od,PySem.W.InstAt h x (PySem.W.instObj C dx) C (some od)/\∀ name,PySem.W.lookIn name od=some (mA name):=
  let ⟨od,ho,hl⟩:=My I.ns
  ⟨od,⟨I.obj,rfl,rfl,ho⟩,hl⟩
section
variable {prog:Program} {w:World} {A:Around} {E:Value->Shared->Prop} {s:Shared} {K:PySem.W.Frag} {x dx C f:Addr} {mA:Str->Option Value} {name:Str} {v:Value}
theorem Qf {expr:Bool} {Q:Value->Shared->Prop} (X:K.In s.heap) (I:ObjM s.heap x dx C mA) (hg:PySem.W.plainGet K C name=true) (hh:PySem.W.hasDictIn K C=true)
    (ha:PySem.W.findIn K (.ref C) name=some none) (hv:mA name=some v) (hv':PySem.W.handedIn v=true) (h:Q v { s with toks:=s.toks+1 }):
    wpAny (model prog w) A (getAttr (.ref x) name expr) Q E s:=by
  obtain ⟨od,J,hl⟩:=I.look;exact PySem.W.get_value X J (PySem.W.plainGet_of hg).1 (PySem.W.findObj_own hh ha rfl (by rw [hl,hv])) hv' h
theorem OA {pl:Sem Bool} {Q:Value × List Value->Shared->Prop} (X:K.In s.heap) (I:ObjM s.heap x dx C mA) (hg:PySem.W.plainGet K C name=true)
    (hf:PySem.W.findIn K (.ref C) name=some (some (.ref f))) (ht:PySem.W.isFn K (.ref f)=true) (hv:mA name=none) (h:Q (.ref f,[.ref x]) s):
    wpAny (model prog w) A (getMethod (.ref x) name pl) Q E s:=by
  obtain ⟨od,J,hl⟩:=I.look;exact PySem.W.method_fn X J (PySem.W.plainGet_of hg).1 (PySem.W.plainGet_of hg).2 hf (beq_iff_eq.mp ht) (by show (PySem.W.lookIn name od).map (·.isSome)=some false;rw [hl,hv];rfl) h
theorem Qk {ns:List Str} {Q:Unit->Shared->Prop} (X:K.In s.heap) (I:ObjM s.heap x dx C mA)
    (hs:PySem.W.findIn K (.ref C) "__setattr__"=some (some (.builtin "object.__setattr__"))) (hp:PySem.W.plainOver K C=true) (ht:PySem.W.takerIn K C name=some none) (hh:PySem.W.hasDictIn K C=true)
    (hw:PySem.Within mA ns) (hsz:ns.length<=sizeLine)
    (h:∀ h',ObjM h' x dx C (λ y=>if y=name then some v else mA y)->Heap.SameBut dx s.heap h'->Q () { s with heap:=h',toks:=s.toks+2 }):
    wpAny (model prog w) A (setAttr (.ref x) name v) Q E s:=by
  obtain ⟨od,J,hl⟩:=I.look;refine PySem.W.set_plain X J hs (PySem.W.osa_open (s:={ s with toks:=s.toks+1 }) (r:=none) X J hp ht λ b=> ?_);obtain ⟨cd,hc,hd'⟩:=PySem.W.any_some hh;have hx:s.heap.get? x=some ⟨.ref C,some dx, .plain, #[]⟩:=I.obj;refine Aa3 (Aa7 (Aa3 (Aa3 (wpAny_loadPart hx (Aa3 (PySem.W.Looks.here (s:={ s with toks:=s.toks+1 }) (PySem.W.looks_clsIn X hc) ?_))))));rw [hd'];refine Aa7 (a:=some dx) (Aa3 (Aa7 (Aa3 ?_)));refine wpAny_nsSet1 (s:={ s with toks:=s.toks+1 }) I.ns λ h' hn2 hs2=> ?_;obtain ⟨oD,esD,epD,hoD,hdD,hcD⟩:=hn2.count (PySem.Within.cons name v hw);refine Aa3 (wpAny_lookBehind hoD (by rw [hdD];exact pastItsLine_dict (Ae0 hcD (by rw [Ad8];omega))) ?_);exact Aa7 (h _ ⟨(hs2.2 _ (Ne.symm I.ne)).trans I.obj,hn2,I.ne⟩ hs2)
theorem Nj {R:Result->Shared->Prop} {vs:List Value} {kw:List (Str × Value)} (X:K.In s.heap) (hm:PySem.W.makesIn K C=true)
    (hi:PySem.W.findIn K (.ref C) "__init__"=some (some (.ref f))) (hf:PySem.W.typeIn K (.ref f)=some (.type "function"))
    (h:codeAny (model prog w) (A.under (.builtin "type.__call__" ⟨.ref C::vs,kw⟩)) (.call (.ref f) ⟨.ref (s.heap.objs.size+1)::vs,kw⟩) (PySem.W.InitBack (s.heap.objs.size+1) R)
      { s with heap:=(s.heap.push PySem.W.emptyDict).push (PySem.W.instObj C s.heap.objs.size) }):
    codeAny (model prog w) A (.call (.ref C) ⟨vs,kw⟩) R s:=by
  obtain ⟨hh,g,d,t,os⟩:=s;exact PySem.W.make_core (PySem.W.makes_of X hm) (PySem.W.looks_findIn X hi) (λ self=>PySem.W.bind_fn X self hf) (.inl rfl) h
end
def CK (f:Str) (v:V):List (Str × V)->List (Str × V)
  | []=>[(f,v)]
  | (g,x)::r=>if g=f then (g,v)::r else (g,x)::CK f v r
theorem Fh (f g:Str) (v:V):∀ fs:List (Str × V),(CK f v fs).lookup g=if g=f then some v else fs.lookup g
  | []=>by
    show List.lookup g [(f,v)]=_;by_cases h:g=f
    · have hb:(g == f)=true:=beq_iff_eq.mpr h;simp only [List.lookup,hb,if_pos h]
    · have hb:(g == f)=false:=beq_eq_false_iff_ne.mpr h;simp only [List.lookup,hb,if_neg h]
  | (k,x)::r=>by
    have ih:=Fh f g v r;rw [show CK f v ((k,x)::r)=(if k=f then (k,v)::r else (k,x)::CK f v r) from rfl];by_cases hk:k=f
    · rw [if_pos hk];by_cases h:g=k
      · have hb:(g == k)=true:=beq_iff_eq.mpr h;simp only [List.lookup,hb,if_pos (h.trans hk)]
      · have hb:(g == k)=false:=beq_eq_false_iff_ne.mpr h;simp only [List.lookup,hb,if_neg (λ e:g=f=>h (e.trans hk.symm))]
    · rw [if_neg hk];by_cases h:g=k
      · have hb:(g == k)=true:=beq_iff_eq.mpr h;simp only [List.lookup,hb,if_neg (λ e:g=f=>hk (h.symm.trans e))]
      · have hb:(g == k)=false:=beq_eq_false_iff_ne.mpr h;simp only [List.lookup,hb];exact ih
theorem Fb (f:Str) (v:V):∀ fs:List (Str × V),f∈(CK f v fs).map (·.1)/\∀ g,g∈fs.map (·.1)->g∈(CK f v fs).map (·.1)
  | []=>⟨by simp [CK],λ g h=>by simp at h⟩
  | (k,x)::r=>by
    obtain ⟨i1,i2⟩:=Fb f v r;rw [show CK f v ((k,x)::r)=(if k=f then (k,v)::r else (k,x)::CK f v r) from rfl];by_cases hk:k=f
    · rw [if_pos hk];subst hk;exact ⟨by simp,λ g h=>by simpa using h⟩
    · rw [if_neg hk];refine ⟨?_,λ g h=> ?_⟩
      · rw [Af0];exact Ad1 _ i1
      · rw [Af0] at h ⊢;rcases Ac2.mp h with e | e
        · exact Ac2.mpr (.inl e)
        · exact Ad1 _ (i2 g e)
theorem Fz (f:Str) (v:V):∀ fs:List (Str × V),(CK f v fs).length<=fs.length+1
  | []=>by simp [CK]
  | (k,x)::r=>by
    have ih:=Fz f v r;rw [show CK f v ((k,x)::r)=(if k=f then (k,v)::r else (k,x)::CK f v r) from rfl];by_cases hk:k=f
    · rw [if_pos hk,Ad8,Ad8];omega
    · rw [if_neg hk,Ad8,Ad8];omega
theorem RelO.some_of {v:V} {o:Option Value} (r:RelO (some v) o):∃ u,o=some u/\RelV v u:=by
  cases o with
  | none=>exact (show False from r).elim
  | some u=>exact ⟨u,rfl,r⟩
theorem RelO.none_of {o:Option Value} (r:RelO none o):o=none:=by
  cases o with
  | none=>rfl
  | some u=>exact (show False from r).elim
theorem Mf {v:V} {u:Value} (r:RelV v u):PySem.W.handedIn u=true:=by
  cases v with
  | non=>cases (show u=Value.none from r);rfl
  | bl b=>cases (show u=Value.bool b from r);rfl
  | int i=>obtain ⟨t,e⟩:=(show ∃ t,u=Value.int i t from r);cases e;rfl
  | str x=>obtain ⟨t,e⟩:=(show ∃ t,u=Value.str x t from r);cases e;rfl
  | byt b=>obtain ⟨t,e⟩:=(show ∃ t,u=Value.bytes b t from r);cases e;rfl
  | flt b=>obtain ⟨t,e⟩:=(show ∃ t,u=Value.float b t from r);cases e;rfl
  | ref a=>cases (show u=Value.ref a from r);rfl
  | ty n=>cases (show u=Value.type n from r);rfl
section
variable {P:Program} {w:World} {H H':Hp} {h h':Heap} {a C dx:Addr} {fs fs':List (Str × V)}
theorem FY (hok:HOk P w H h) (e:H a=some (.ins C dx fs)):∃ mA,ObjM h a dx C mA/\(∀ f,RelO (fs.lookup f) (mA f))/\PySem.Within mA (fs.map (·.1))/\fs.length<=1000/\H dx=some (.own a):=by
  obtain ⟨d,z,ne,ob,mA,n,r,q⟩:=(show ObjOk P w H h a (.ins C dx fs) from hok a _ e);exact ⟨mA,⟨ob,n,ne⟩,r,q,z,d⟩
end
structure Cls (K:PySem.W.Frag) (C:Addr):Prop where
  pg:PySem.W.plainGet K C Str.empty=true
  hd:PySem.W.hasDictIn K C=true
  po:PySem.W.plainOver K C=true
  sa:PySem.W.findIn K (.ref C) "__setattr__"=some (some (.builtin "object.__setattr__"))
theorem Cls.get {K:PySem.W.Frag} {C:Addr} (c:Cls K C) (f:Str):PySem.W.plainGet K C f=true:=c.pg
def NoAttr (K:PySem.W.Frag) (C:Addr) (f:Str):Prop:=PySem.W.findIn K (.ref C) f=some none
theorem NoAttr.taker {K:PySem.W.Frag} {C:Addr} {f:Str} (n:NoAttr K C f):PySem.W.takerIn K C f=some none:=by
  unfold PySem.W.takerIn;rw [show PySem.W.findIn K (.ref C) f=some none from n];rfl
structure Con (K:PySem.W.Frag) (C:Addr) (f:Str) (v:V) (u:Value):Prop where
  at_:PySem.W.findIn K (.ref C) f=some (some u)
  rel:RelV v u
  get:PySem.W.specialIn K u "__get__"=some none
  cp:PySem.W.copiedNames.contains f=false
structure Meth (K:PySem.W.Frag) (C:Addr) (m:Str) (f:Addr):Prop where
  at_:PySem.W.findIn K (.ref C) m=some (some (.ref f))
  fn:PySem.W.isFn K (.ref f)=true
  kp:PySem.W.keepIn K (.ref f)=true
section
variable {X:Cx} {pins:List (Addr × Obj)} {σ:St} {H:Hp} {s:Shared} {a C dx:Addr} {fs:List (Str × V)} {f:Str} {v:V} {A:Around} {E:Value->Shared->Prop}
theorem JX {b:Bool} {Q:Value->Shared->Prop} (I:Inv X pins σ H s) (e:H a=some (.ins C dx fs)) (c:Cls X.K C) (n:NoAttr X.K C f) (l:fs.lookup f=some v)
    (h:∀ u s',Inv X pins σ H s'->RelV v u->Q u s'):wpAny (model X.prog X.w) A (getAttr (.ref a) f b) Q E s:=by
  obtain ⟨mA,O,r,_,_,_⟩:=FY I.hok e;obtain ⟨u,hu,ru⟩:=RelO.some_of (v:=v) (o:=mA f) (by rw [<-l];exact r f);exact Qf I.kIn O (c.get f) c.hd n hu (Mf ru) (h u _ (I.tok _) ru)
theorem Ek {m:Str} {g:Addr} {pl:Sem Bool} {Q:Value × List Value->Shared->Prop} (I:Inv X pins σ H s) (e:H a=some (.ins C dx fs)) (c:Cls X.K C) (k:Meth X.K C m g) (l:fs.lookup m=none)
    (h:Q (.ref g,[.ref a]) s):wpAny (model X.prog X.w) A (getMethod (.ref a) m pl) Q E s:=by
  obtain ⟨mA,O,r,_,_,_⟩:=FY I.hok e;have hn:mA m=none:=RelO.none_of (by rw [<-l];exact r m);exact OA I.kIn O (c.get m) k.at_ k.fn hn h
theorem Kd {y:V} {u:Value} {Q:Unit->Shared->Prop} (I:Inv X pins σ H s) (e:H a=some (.ins C dx fs)) (c:Cls X.K C) (n:NoAttr X.K C f) (hl:fs.length<1000) (ry:RelV y u)
    (h:∀ s',Inv X pins σ (upd H a (.ins C dx (CK f y fs))) s'->Q () s'):wpAny (model X.prog X.w) A (setAttr (.ref a) f u) Q E s:=by
  obtain ⟨mA,O,r,wi,_,ho⟩:=FY I.hok e;have hz:(fs.map (·.1)).length<=sizeLine:=by rw [Aa2,sizeLine_eq];omega
  refine Qk I.kIn O c.sa c.po n.taker c.hd wi hz λ h' O' sb=>h _ ?_;have hd:∃ o,h'.get? dx=some o:=let ⟨o,_,_,e',_⟩:=O'.ns;⟨o,e'⟩;refine I.write (x:=a) (e:=dx) (by rw [e];exact True.intro) (.inr ho) (λ b q hb z=>(sb.2 b hb).trans z) hd ?_;refine ⟨by rw [Ak O.ne];exact ho,?_,O.ne,O'.obj,_,O'.ns,λ g=> ?_,λ g hg=> ?_⟩
  · have:=Fz f y fs;omega
  · show RelO ((CK f y fs).lookup g) (if g=f then some u else mA g);rw [Fh];by_cases q:g=f
    · rw [if_pos q,if_pos q];exact ry
    · rw [if_neg q,if_neg q];exact r g
  · by_cases q:g=f
    · rw [q];exact (Fb f y fs).1
    · refine (Fb f y fs).2 g (wi g λ z=>hg ?_);show (if g=f then some u else mA g)=none;rw [if_neg q];exact z
theorem Inv.made (I:Inv X pins σ H s):Inv X pins σ (upd (upd H s.heap.objs.size (.own (s.heap.objs.size+1))) (s.heap.objs.size+1) (.ins C s.heap.objs.size []))
    { s with heap:=(s.heap.push PySem.W.emptyDict).push (PySem.W.instObj C s.heap.objs.size) }:=by
  have e1:(s.heap.push PySem.W.emptyDict).get? s.heap.objs.size=some PySem.W.emptyDict:=Ab3 s.heap rfl;have e2:((s.heap.push PySem.W.emptyDict).push (PySem.W.instObj C s.heap.objs.size)).get? (s.heap.objs.size+1)=some (PySem.W.instObj C s.heap.objs.size):=by
    have:=Ab3 (s.heap.push PySem.W.emptyDict) (o:=PySem.W.instObj C s.heap.objs.size) rfl
    rwa [Heap.size_push] at this
  have e3:(s.heap.push PySem.W.emptyDict).Ns s.heap.objs.size (λ _=>none):=⟨PySem.W.emptyDict, #[],_,e1,rfl,(λ e he=>absurd he (by simp)),λ _=>rfl⟩;have I1:=I.laid (a:=s.heap.objs.size) (o:= .own (s.heap.objs.size+1)) (h':=s.heap.push PySem.W.emptyDict) (t':=s.toks) (λ b u q=>Aa4 _ q) (Aa6 _) ⟨_,e1⟩;refine I1.laid (a:=s.heap.objs.size+1) (o:= .ins C s.heap.objs.size []) (t':=s.toks) (λ b u q=>Aa4 _ q) (Nat.le_of_eq (Heap.size_push _ _)) ?_;have ne:s.heap.objs.size≠s.heap.objs.size+1:=Ac9 (Nat.lt_succ_self _);refine ⟨by rw [Ak ne,Ac],Ad3 _,ne,e2,λ _=>none,(Heap.Ns1.of_empty e3).at λ o q=>Aa4 _ q,λ _=>True.intro,λ y hy=>absurd rfl hy⟩
theorem Pm {prog:Program} {w:World} {env:Env} {e:Expr} {f:Str} {pos:Pos} {s:Shared} {Q:Value->Shared->Prop} (hb:attributeBase e f env (eval e env)=eval e env)
    (h:wpAny (model prog w) A (eval e env) (λ o s₁=>wpAny (model prog w) A (getAttr o f true) Q E s₁) E s):wpAny (model prog w) A (eval (.Attribute e f pos) env) Q E s:=
  Attribute_any_ h (by rw [arm_eval_Attribute,hb])
end
def SR (K:PySem.W.Frag) (ta:TE) (f:Str):TE:=λ σ H Q=>ta σ H λ x H1=>∃ a C dx fs v,x= .ref a/\H1 a=some (.ins C dx fs)/\Cls K C/\NoAttr K C f/\fs.lookup f=some v/\Q v H1
def Uk (K:PySem.W.Frag) (ta tv:TE) (f:Str):TS:=λ D σ H=>tv σ H λ y H1=>ta σ H1 λ x H2=>∃ a C dx fs,x= .ref a/\H2 a=some (.ins C dx fs)/\Cls K C/\NoAttr K C f/\fs.length<1000/\
  D.nx σ (upd H2 a (.ins C dx (CK f y fs)))
section
variable {X:Cx} {o e value:Expr} {f:Str} {pos pos' tpos:Pos} {ta tv:TE}
theorem SH (he:PE X e ta) (hb:attributeBase e f X.env (eval e X.env)=eval e X.env):PE X (.Attribute e f pos) (SR X.K ta f):=by
  intro pins s σ H Q I h;refine Pm hb (thn (he pins s σ H _ I h) λ u s1 ⟨x,H1,I1,rx,a,C,dx,fs,v,ex,ea,c,n,l,q⟩=> ?_);subst ex;obtain rfl:u=Value.ref a:=rx;exact JX I1 ea c n l λ u' s2 I2 ru=>⟨v,H1,I2,ru,q⟩
theorem OK (ha:PE X o ta) (hv:PE X value tv) (hs:swapsWith value (some (.Attribute o f pos')) pos.line X.env=pure false):PS X (.Assign [.Attribute o f pos'] value pos) (Uk X.K ta tv f):=by
  intro pins s σ H D I h;refine plainObj_wpAny_Assign_Attribute (thn (hv pins s σ H _ I h) λ u s1 ⟨y,H1,I1,ry,q⟩=>thn (ha pins s1 σ H1 _ I1 q) λ ov s2 ⟨x,H2,I2,rx,a,C,dx,fs,ex,ea,c,n,l,q2⟩=> ?_) hs;subst ex;obtain rfl:ov=Value.ref a:=rx;exact Kd I2 ea c n l ry λ s3 I3=>⟨σ,_,I3,q2⟩
theorem Qo {pl:Sem Bool} {m:Str} {apos:Pos} {args:List Expr} {pins:List (Addr × Obj)} {s:Shared} {σ:St} {H:Hp} {Q:Value->Shared->Prop} {te:TE} (he:PE X e te) (I:Inv X pins σ H s)
    (h:te σ H λ x H1=>∃ a C dx fs g,x= .ref a/\H1 a=some (.ins C dx fs)/\Cls X.K C/\Meth X.K C m g/\fs.lookup m=none/\
      ∀ s1,Inv X pins σ H1 s1->wpAny (model X.prog X.w) X.A (callWith pos (.ref g) [.ref a] (backTo pos (starEach args X.env)) (backToKw pos (keywordEach [] X.env))) Q X.xe s1)
    (ht:eval (.Call (.Attribute e m apos) args [] pos) X.env=(do
      let ov <-eval e X.env
      standAt apos.atName
      let (f,first) <-holding [ov] (getMethod ov m pl)
      callWith pos f first (backTo pos (starEach args X.env)) (backToKw pos (keywordEach [] X.env)))):
    wpAny (model X.prog X.w) X.A (eval (.Call (.Attribute e m apos) args [] pos) X.env) Q X.xe s:=by
  refine PySem.W.methodCall_KW (pl:=pl) (thn (he pins s σ H _ I h) λ u s1 ⟨x,H1,I1,rx,a,C,dx,fs,g,ex,ea,c,k,l,q⟩=> ?_) ht;subst ex;obtain rfl:u=Value.ref a:=rx;exact Ek I1 ea c k l (q s1 I1)
end
section
variable {X:Cx} {pins:List (Addr × Obj)} {σ:St} {H:Hp} {s:Shared} {A:Around} {E:Value->Shared->Prop} {Q:Value->Shared->Prop} {c:Value} {b:Bool}
inductive TyOf (K:PySem.W.Frag) (H:Hp):V->Value->Prop where
  | non:TyOf K H .non (.type "NoneType")
  | bl (x:Bool):TyOf K H (.bl x) (.type "bool")
  | int (i:Int):TyOf K H (.int i) (.type "int")
  | str (x:Str):TyOf K H (.str x) (.type "str")
  | flt (x:UInt64):TyOf K H (.flt x) (.type "float")
  | lst {a:Addr} {xs:List V} (e:H a=some (.lst xs)):TyOf K H (.ref a) (.type "list")
  | frz {a:Addr} {o:Obj} {xs:List V} (e:H a=some (.frz o (.lst xs))):TyOf K H (.ref a) (.type "list")
  | tup {a:Addr} {xs:List V} (e:H a=some (.tup xs)):TyOf K H (.ref a) (.type "tuple")
  | dK {a:Addr} {kvs:List (Key × V)} (e:H a=some (.dK kvs)):TyOf K H (.ref a) (.type "dict")
  | dT {a:Addr} {kvs:List (List Key × V)} (e:H a=some (.dT kvs)):TyOf K H (.ref a) (.type "dict")
  | ins {a C dx:Addr} {fs:List (Str × V)} (e:H a=some (.ins C dx fs)) (cl:Cls K C) (ha:PySem.W.findIn K (.ref C) "__class__"=some (some (.builtin "object.__class__")))
      (hn:PySem.W.specialIn K (.builtin "object.__class__") "__get__"=some (some (.builtin "getset_descriptor.__get__"))) (htk:PySem.W.takesIn K (.builtin "object.__class__")=some true)
      (hm:PySem.W.mroIn K C (.type "object")=some true):TyOf K H (.ref a) (.ref C)
theorem MO {x:V} {u t:Value} (I:Inv X pins σ H s) (rx:RelV x u) (ty:TyOf X.K H x t) (e:PySem.W.kitOne X.K t c=some b) (h:∀ tk,Q (.bool b) { s with toks:=tk }):
    wpAny (model X.prog X.w) A (call (.builtin "isinstance") [u,c]) Q E s:=by
  cases ty with
  | non=>cases (show u=Value.none from rx);exact PySem.W.kia_one PySem.W.kitx_none I.kIn True.intro e (λ z=>nomatch z) h
  | bl y=>cases (show u=Value.bool y from rx);exact PySem.W.kia_one PySem.W.kitx_bool I.kIn True.intro e (λ z=>nomatch z) h
  | int i=>obtain ⟨t,q⟩:=(show ∃ t,u=Value.int i t from rx);cases q;exact PySem.W.kia_one PySem.W.kitx_int I.kIn True.intro e (λ z=>nomatch z) h
  | str y=>obtain ⟨t,q⟩:=(show ∃ t,u=Value.str y t from rx);cases q;exact PySem.W.kia_one PySem.W.kitx_str I.kIn True.intro e (λ z=>nomatch z) h
  | flt y=>obtain ⟨t,q⟩:=(show ∃ t,u=Value.float y t from rx);cases q;exact PySem.W.kia_one PySem.W.kitx_float I.kIn True.intro e (λ z=>nomatch z) h
  | @lst a xs ea=>
    cases (show u=Value.ref a from rx);obtain ⟨_,_,n,_,h1⟩:=(show ObjOk X.prog X.w H s.heap a (.lst xs) from I.hok a _ ea);exact PySem.W.kia_one PySem.W.kitx_list I.kIn ⟨_,h1,rfl⟩ e (λ z=>nomatch z) h
  | @frz a ob xs ea=>
    cases (show u=Value.ref a from rx);obtain ⟨_,_,_,n,_,h1⟩:=(show ObjOk X.prog X.w H s.heap a (.frz ob (.lst xs)) from I.hok a _ ea);exact PySem.W.kia_one PySem.W.kitx_list I.kIn ⟨_,h1,rfl⟩ e (λ z=>nomatch z) h
  | @tup a xs ea=>
    cases (show u=Value.ref a from rx);obtain ⟨_,_,_,p⟩:=(show ObjOk X.prog X.w H s.heap a (.tup xs) from I.hok a _ ea);obtain ⟨o,h1,h2,_⟩:=p;exact PySem.W.kia_one PySem.W.kitx_tuple I.kIn ⟨o,h1,h2⟩ e (λ z=>nomatch z) h
  | @dK a kvs ea=>
    cases (show u=Value.ref a from rx);obtain ⟨_,_,vs,_,p⟩:=(show ObjOk X.prog X.w H s.heap a (.dK kvs) from I.hok a _ ea);obtain ⟨o,es,ep,h1,h2,_⟩:=p;exact PySem.W.kia_one PySem.W.kitx_dict I.kIn ⟨o,h1,h2.1⟩ e (λ z=>nomatch z) h
  | @dT a kvs ea=>
    cases (show u=Value.ref a from rx);obtain ⟨_,_,xs,_,o,es,ep,h1,h2,_⟩:=(show ObjOk X.prog X.w H s.heap a (.dT kvs) from I.hok a _ ea);exact PySem.W.kia_one PySem.W.kitx_dict I.kIn ⟨o,h1,h2.1⟩ e (λ z=>nomatch z) h
  | @ins a C dx fs ea cl ha hn htk hm=>
    cases (show u=Value.ref a from rx);obtain ⟨mA,O,_⟩:=FY I.hok ea;obtain ⟨od,J,_⟩:=O.look;exact PySem.W.kia_one (PySem.W.kitx_own (cl.get _) cl.hd ha hn htk hm) I.kIn J e (λ z=>nomatch z) h
end
structure Room (k:Nat) (A:Around):Prop where
  hd:A.handled=none
  dp:A.depth+3*k+5<recursionLimit
  un:A.units+16*k+200<cLine
theorem Room.mono {j k:Nat} {A:Around} (r:Room k A) (h:j<=k):Room j A:=⟨r.hd,by have:=r.dp;omega,by have:=r.un;omega⟩
theorem Room.deeper {k:Nat} {A:Around} (r:Room (k+1) A) (env:Env):Room k (A.deeper env):=
  ⟨r.hd,by have:=r.dp;show A.depth+1+3*k+5<_;omega,by have:=r.un;show A.units+3+16*k+200<_;omega⟩
theorem Ky {A:Around} {C:Addr} {us:List Value} {kw:List (Str × Value)}:(A.under (.builtin "type.__call__" ⟨.ref C::us,kw⟩)).depth=A.depth+1:=by
  first | rfl | simp [Around.under,Code.weight,Code.isCreation,Code.isGuard,Code.isCaller,Code.frames,Code.isFrame,guardIds]
theorem JV {A:Around} {C:Addr} {us:List Value} {kw:List (Str × Value)}:(A.under (.builtin "type.__call__" ⟨.ref C::us,kw⟩)).units=A.units+1:=by
  first | rfl | simp [Around.under,Code.cUnits,Code.frames,Code.isFrame]
theorem Room.make {k:Nat} {A:Around} (r:Room (k+1) A) (C:Addr) (us:List Value) (kw:List (Str × Value)):Room k (A.under (.builtin "type.__call__" ⟨.ref C::us,kw⟩)):=
  ⟨r.hd,by have:=r.dp;rw [Ky];omega,by have:=r.un;rw [JV];omega⟩
theorem Room.depth {k:Nat} {A:Around} (r:Room k A):A.depth<recursionLimit:=by have:=r.dp;omega
theorem Room.units {k:Nat} {A:Around} (r:Room k A):A.units+64<cLine:=by have:=r.un;omega
theorem Room.units0 {k:Nat} {A:Around} (r:Room k A):A.units<cLine:=by have:=r.un;omega
def Ps:TA:=λ _ H Q=>Q [] H
def Qp (ta:TE) (tr:TA):TA:=λ σ H Q=>ta σ H λ x H1=>tr σ H1 λ xs H2=>Q (x::xs) H2
section
variable {X:Cx} {e:Expr} {es:List Expr} {te:TE} {t:TA} {pos:Pos}
theorem Ab:PA X [] Ps:=λ _ _ _ _ H Q I h=>Calls.spliced_nil ⟨[],H,I, .nil,h⟩
theorem Aa (ha:PE X e te) (hr:PA X es t) (hs:starEach (e::es) X.env=(false,eval e X.env)::starEach es X.env:=by rfl):PA X (e::es) (Qp te t):=by
  intro pos pins s σ H Q I h;rw [hs];show wpAny _ _ (spliced ((false,eval e X.env)::backTo pos (starEach es X.env))) _ _ s;refine Calls.spliced_cons (thn (ha pins s σ H _ I h) λ u s1 ⟨x,H1,I1,r1,q1⟩=> ?_);exact thn (hr pos pins s1 σ H1 _ I1 q1) λ us s2 ⟨xs,H2,I2,r2,q2⟩=>⟨x::xs,H2,I2, .cons r1 r2,q2⟩
def V5 (t:TA):TE:=λ σ H Q=>t σ H λ xs H1=>xs.length<=sizeLine/\∀ p,H1 p=none->Q (.ref p) (upd H1 p (.tup xs))
def Tx (t:TA):TE:=λ σ H Q=>t σ H λ xs H1=>xs.length<=sizeLine/\∀ p,H1 p=none->Q (.ref p) (upd H1 p (.lst xs))
theorem A8 {x1} (h:PA X es t):PE X (.Tuple es x1 pos) (V5 t):=by
  intro pins s σ H Q I hq;refine wpAny_Tuple_spliced (thn (h pos pins s σ H _ I hq) λ us s1 ⟨xs,H1,I1,r,z,q⟩=>⟨by rw [<-r.length];exact z,?_⟩);have hf:H1 s1.heap.objs.size=none:=I1.hok.fresh (Aa6 _);refine ⟨.ref s1.heap.objs.size,upd H1 s1.heap.objs.size (.tup xs),I1.laid (t':=s1.toks) (λ b u e=>Aa4 _ e) (Aa6 _) ?_,rfl,q _ hf⟩;exact ⟨z,us,r,⟨_,Ab3 _ rfl,rfl,_,rfl⟩⟩
theorem AY (h:PA X es t):PE X (.List es pos) (Tx t):=by
  intro pins s σ H Q I hq;refine wpAny_List_spliced (thn (h pos pins s σ H _ I hq) λ us s1 ⟨xs,H1,I1,r,z,q⟩=>⟨by rw [<-r.length];exact z,?_⟩);have hf:H1 s1.heap.objs.size=none:=I1.hok.fresh (Aa6 _);refine ⟨.ref s1.heap.objs.size,upd H1 s1.heap.objs.size (.lst xs),I1.laid (t':=s1.toks) (λ b u e=>Aa4 _ e) (Aa6 _) ?_,rfl,q _ hf⟩;exact ⟨z,us,0,r,Ab3 _ rfl⟩
end
abbrev Sp:=List V->Hp->VK->XK->Prop
abbrev CXT:=List Env->Hp->Shared->XK->Value->Shared->Prop
structure Env0 (P:Program) (w:World) (K:PySem.W.Frag) (mg:Str->Option Value) (base:Heap) (A:Around) (outer:List Env) (s:Shared) (H:Hp):Prop where
  frames:A.frames=some outer
  mod:Mod K mg base
  bs:∀ b o,base.get? b=some o->s.heap.get? b=some o/\H b=none
  bsz:base.objs.size<=s.heap.objs.size
  funs:s.heap.FunFrames base outer
  frf:∀ b∈frs outer,H b=none
  hok:HOk P w H s.heap
  bare:AllBare s.gens
def CE (outer:List Env) (P:Program) (w:World) (H:Hp) (s:Shared) (Q:VK) (u:Value) (s':Shared):Prop:=
  ∃ v H',s'.os=s.os/\AllBare s'.gens/\Un (frs outer) [] H H' s.heap s'.heap/\HOk P w H' s'.heap/\RelV v u/\Q v H'
def CR (CX:CXT) (outer:List Env) (P:Program) (w:World) (H:Hp) (s:Shared) (Q:VK) (E:XK) (r:Result) (s':Shared):Prop:=
  match r with
  | .ok (.ret u)=>CE outer P w H s Q u s'
  | .ok _=>False
  | .error e=>CX outer H s E e s'
structure FnOk (P:Program) (w:World) (K:PySem.W.Frag) (mg:Str->Option Value) (base:Heap) (CX:CXT) (k:Nat) (f:Addr) (fd:FuncData) (ps:List Str) (sp:Sp):Prop where
  len:∀ vs H Q E,sp vs H Q E->vs.length=ps.length
  run:∀ (A:Around) (outer:List Env) (s:Shared) (H:Hp) (args:Args) (us:List Value) (vs:List V) (Q:VK) (E:XK),Room k A->Env0 P w K mg base A outer s H->BindsTo s fd args (ps.zip us)->Vals vs us->sp vs H Q E->
    codeAny (model P w) A (.call (.ref f) args) (CR CX outer P w H s Q E) s
theorem Env0.make {P:Program} {w:World} {K:PySem.W.Frag} {mg:Str->Option Value} {base:Heap} {A:Around} {outer:List Env} {s:Shared} {H:Hp} (e:Env0 P w K mg base A outer s H) (C:Addr) (us:List Value) (kw:List (Str × Value)):
    Env0 P w K mg base (A.under (.builtin "type.__call__" ⟨.ref C::us,kw⟩)) outer s H:=⟨by first | exact e.frames | (simpa [Around.under,Code.envs,Code.isFrame,pushEnvs] using e.frames),e.mod,e.bs,e.bsz,e.funs,e.frf,e.hok,e.bare⟩
section
variable {X:Cx} {pins:List (Addr × Obj)} {σ:St} {H:Hp} {s s':Shared}
theorem Inv.env0 (I:Inv X pins σ H s):Env0 X.prog X.w X.K X.mg X.base X.A X.stack s H:=
  ⟨I.ok.frames,I.ok.mod,I.bs,Ae0 I.ok.bsz I.sz,I.stack,I.stkFree,I.hok,I.bare⟩
theorem Inv.after {Q:VK} {u:Value} (I:Inv X pins σ H s) (h:CE X.stack X.prog X.w H s Q u s'):EP X pins σ Q u s':=by
  obtain ⟨v,H',os,bare,un,hok,r,q⟩:=h;obtain ⟨hh,g,d,t,os'⟩:=s';obtain rfl:os'=s.os:=os;exact ⟨v,H',I.call (h':=hh) (g':=g) (d':=d) (t':=t) (ch:=[]) un hok bare (λ b z=>absurd z (by simp)),r,q⟩
end
def Lb (sp:Sp) (dvs:List V) (E:XK) (t:TA):TE:=λ σ H Q=>t σ H λ vs H1=>sp (vs++dvs) H1 Q E
def HZ (C:Addr) (m:Str) (sp:Sp) (dvs:List V) (E:XK) (ta:TE) (t:TA):TE:=λ σ H Q=>ta σ H λ x H1=>∃ a dx fs,x= .ref a/\H1 a=some (.ins C dx fs)/\fs.lookup m=none/\
  t σ H1 λ vs H2=>sp (x::(vs++dvs)) H2 Q E
def Lj (C:Addr) (sp:Sp) (dvs:List V) (E:XK) (t:TA):TE:=λ σ H Q=>t σ H λ vs H1=>∀ x dx,H1 x=none->H1 dx=none->dx≠x->
  sp (.ref x::(vs++dvs)) (upd (upd H1 dx (.own x)) x (.ins C dx [])) (λ v H2=>v= .non/\Q (.ref x) H2) E
def Binds (K:PySem.W.Frag) (fd:FuncData) (ps:List Str) (ds:List Value):Prop:=
  ∀ (s:Shared) (us:List Value),K.In s.heap->(us++ds).length=ps.length->BindsTo s fd ⟨us,[]⟩ (ps.zip (us++ds))
theorem Binds.all {K:PySem.W.Frag} {fd:FuncData} {ps:List Str} (h:∀ us:List Value,us.length=ps.length->bindArgs fd ⟨us,[]⟩=pure (ps.zip us)):Binds K fd ps []:=λ s us _ hl=>by
  rw [Ah8] at hl ⊢;exact .of_eq (h us hl)
def Ep (CX:CXT) (X:Cx) (E:XK):Prop:=∀ (pins:List (Addr × Obj)) (σ:St) (H:Hp) (s:Shared) (e:Value) (s':Shared),Inv X pins σ H s->CX X.stack H s E e s'->X.xe e s'
section
variable {X:Cx} {CX:CXT} {k:Nat} {f C:Addr} {fd:FuncData} {ps:List Str} {sp:Sp} {dvs:List V} {ds:List Value} {E:XK} {x m:Str} {p pos apos:Pos} {e o:Expr} {es:List Expr} {ta:TE} {t:TA}
theorem JY {pins:List (Addr × Obj)} {σ:St} {H:Hp} {s:Shared} {Q:VK} {us:List Value} {vs:List V} (F:FnOk X.prog X.w X.K X.mg X.base CX k f fd ps sp) (hr:Room k X.A) (hb:Binds X.K fd ps ds) (hd:Vals dvs ds) (hx:Ep CX X E)
    (I:Inv X pins σ H s) (r:Vals vs us) (h:sp (vs++dvs) H Q E):wpAny (model X.prog X.w) X.A (call (.ref f) us) (EP X pins σ Q) X.xe s:=by
  have r2:Vals (vs++dvs) (us++ds):=r.append hd;have hl:(us++ds).length=ps.length:=by rw [<-r2.length];exact F.len _ _ _ _ h
  refine wpAny_call (codeAny_mono (F.run X.A X.stack s H ⟨us,[]⟩ (us++ds) (vs++dvs) Q E hr I.env0 (hb s us I.kIn hl) r2 h) λ r s' hq=> ?_);cases r with
  | error e=>exact hx pins σ H s e s' I hq
  | ok fl=>
    cases fl with
    | ret u=>exact I.after hq
    | next=>exact False.elim hq
    | brk=>exact False.elim hq
    | cont=>exact False.elim hq
theorem Pk (F:FnOk X.prog X.w X.K X.mg X.base CX k f fd ps sp) (hr:Room k X.A) (hg:Gl X x) (hm:X.mg x=some (.ref f)) (hk:PySem.W.keepIn X.K (.ref f)=true) (hb:Binds X.K fd ps ds) (hd:Vals dvs ds) (hx:Ep CX X E)
    (ha:PA X (e::es) t) (hdb:(x == ("__debug__":Str))=false:=by decide) (he:starEach (e::es) X.env=(false,eval e X.env)::starEach es X.env:=by rfl) (hpl:(backTo pos (starEach es X.env)).any (·.1)=false:=by rfl):
    PE X (.Call (.Name x p) (e::es) [] pos) (Lb sp dvs E t):=by
  intro pins s σ H Q I h;refine Aj1 (IJ I hg hm ?_ hdb);refine PySem.W.callWith_K (h₀:=X.base) I.ok.mod.kin hk (thn (ha pos pins s σ H _ I h) λ us s1 ⟨vs,H1,I1,r,q⟩=>⟨I1.kIn,?_⟩) he hpl;exact JY F hr hb hd hx I1 r q
theorem P8 {pl:Sem Bool} (he:PE X o ta) (c:Cls X.K C) (hm:Meth X.K C m f) (F:FnOk X.prog X.w X.K X.mg X.base CX k f fd ps sp) (hr:Room k X.A) (hb:Binds X.K fd ps ds) (hd:Vals dvs ds) (hx:Ep CX X E) (ha:PA X (e::es) t)
    (hst:starEach (e::es) X.env=(false,eval e X.env)::starEach es X.env:=by rfl) (hpl:(backTo pos (starEach es X.env)).any (·.1)=false:=by rfl)
    (ht:eval (.Call (.Attribute o m apos) (e::es) [] pos) X.env=(do
      let ov <-eval o X.env
      standAt apos.atName
      let (f,first) <-holding [ov] (getMethod ov m pl)
      callWith pos f first (backTo pos (starEach (e::es) X.env)) (backToKw pos (keywordEach [] X.env))):=by rfl):
    PE X (.Call (.Attribute o m apos) (e::es) [] pos) (HZ C m sp dvs E ta t):=by
  intro pins s σ H Q I h;refine PySem.W.methodCall_KW (pl:=pl) (thn (he pins s σ H _ I h) λ u s1 ⟨x,H1,I1,rx,a,dx,fs,ex,ea,l,q⟩=> ?_) ht;subst ex;obtain rfl:u=Value.ref a:=rx;refine Ek I1 ea c hm l ?_;refine PySem.W.callWith_K (first:=[.ref a]) (h₀:=X.base) I.ok.mod.kin hm.kp (thn (ha pos pins s1 σ H1 _ I1 q) λ us s2 ⟨vs,H2,I2,r,q2⟩=>⟨I2.kIn,?_⟩) hst hpl;exact JY (us:= .ref a::us) (vs:= .ref a::vs) F hr hb hd hx I2 (.cons rfl r) q2
theorem NQ {pl:Sem Bool} (he:PE X o ta) (c:Cls X.K C) (hm:Meth X.K C m f) (F:FnOk X.prog X.w X.K X.mg X.base CX k f fd ps sp) (hr:Room k X.A) (hb:Binds X.K fd ps ds) (hd:Vals dvs ds) (hx:Ep CX X E)
    (ht:eval (.Call (.Attribute o m apos) [] [] pos) X.env=(do
      let ov <-eval o X.env
      standAt apos.atName
      let (f,first) <-holding [ov] (getMethod ov m pl)
      callWith pos f first (backTo pos (starEach [] X.env)) (backToKw pos (keywordEach [] X.env))):=by rfl):
    PE X (.Call (.Attribute o m apos) [] [] pos) (HZ C m sp dvs E ta Ps):=by
  intro pins s σ H Q I h;refine PySem.W.methodCall_KW (pl:=pl) (thn (he pins s σ H _ I h) λ u s1 ⟨x,H1,I1,rx,a,dx,fs,ex,ea,l,q⟩=> ?_) ht;subst ex;obtain rfl:u=Value.ref a:=rx;refine Ek I1 ea c hm l ?_;exact PySem.W.callWith_K0 (first:=[.ref a]) I1.kIn hm.kp (JY (us:=[.ref a]) (vs:=[.ref a]) F hr hb hd hx I1 (.cons rfl .nil) q)
structure Mk (K:PySem.W.Frag) (C f:Addr):Prop where
  makes:PySem.W.makesIn K C=true
  init:PySem.W.findIn K (.ref C) "__init__"=some (some (.ref f))
  fn:PySem.W.isFn K (.ref f)=true
  kp:PySem.W.keepIn K (.ref C)=true
theorem Oy {pins:List (Addr × Obj)} {σ:St} {H:Hp} {s:Shared} {Q:VK} {us:List Value} {vs:List V} (M:Mk X.K C f) (F:FnOk X.prog X.w X.K X.mg X.base CX k f fd ps sp) (hr:Room (k+1) X.A) (hb:Binds X.K fd ps ds) (hd:Vals dvs ds)
    (hx:Ep CX X E) (I:Inv X pins σ H s) (r:Vals vs us)
    (h:∀ x dx,H x=none->H dx=none->dx≠x->sp (.ref x::(vs++dvs)) (upd (upd H dx (.own x)) x (.ins C dx [])) (λ v H2=>v= .non/\Q (.ref x) H2) E):
    wpAny (model X.prog X.w) X.A (call (.ref C) us) (EP X pins σ Q) X.xe s:=by
  have hq:=h (s.heap.objs.size+1) s.heap.objs.size (I.hok.fresh (Nat.le_succ _)) (I.hok.fresh (Aa6 _)) (Ac9 (Nat.lt_succ_self _));have I2:=Inv.made (C:=C) I;have r2:Vals (V.ref (s.heap.objs.size+1)::(vs++dvs)) (Value.ref (s.heap.objs.size+1)::(us++ds)):= .cons rfl (r.append hd);have hl:(Value.ref (s.heap.objs.size+1)::us++ds).length=ps.length:=by
    have e:=r2.length;rw [F.len _ _ _ _ hq] at e;exact e.symm
  refine wpAny_call (Nj (f:=f) I.kIn M.makes M.init (beq_iff_eq.mp M.fn) (codeAny_mono (F.run _ X.stack _ _ ⟨Value.ref (s.heap.objs.size+1)::us,[]⟩ (Value.ref (s.heap.objs.size+1)::(us++ds)) _ _ E (hr.make C us [])
    (I2.env0.make C us []) (hb _ (Value.ref (s.heap.objs.size+1)::us) I2.kIn hl) r2 hq) λ r s' hq'=> ?_))
  cases r with
  | error e=>exact hx pins σ _ _ e s' I2 hq'
  | ok fl=>
    cases fl with
    | ret u=>
      obtain ⟨v,H',I3,rv,ev,q3⟩:=I2.after hq';subst ev;exact ⟨rv,⟨V.ref (s.heap.objs.size+1),H',I3,rfl,q3⟩⟩
    | next=>exact False.elim hq'
    | brk=>exact False.elim hq'
    | cont=>exact False.elim hq'
theorem O7 (M:Mk X.K C f) (F:FnOk X.prog X.w X.K X.mg X.base CX k f fd ps sp) (hr:Room (k+1) X.A) (hg:Gl X x) (hm:X.mg x=some (.ref C)) (hb:Binds X.K fd ps ds) (hd:Vals dvs ds) (hx:Ep CX X E)
    (ha:PA X (e::es) t) (hdb:(x == ("__debug__":Str))=false:=by decide) (he:starEach (e::es) X.env=(false,eval e X.env)::starEach es X.env:=by rfl) (hpl:(backTo pos (starEach es X.env)).any (·.1)=false:=by rfl):
    PE X (.Call (.Name x p) (e::es) [] pos) (Lj C sp dvs E t):=by
  intro pins s σ H Q I h;refine Aj1 (IJ I hg hm ?_ hdb);refine PySem.W.callWith_K (h₀:=X.base) I.ok.mod.kin M.kp (thn (ha pos pins s σ H _ I h) λ us s1 ⟨vs,H1,I1,r,q⟩=>⟨I1.kIn,?_⟩) he hpl;exact Oy M F hr hb hd hx I1 r q
end
section
variable {X:Cx} {CX:CXT} {k:Nat} {f C:Addr} {fd:FuncData} {ps ks:List Str} {sp:Sp} {E:XK} {x m:Str} {p pos apos kpos:Pos} {e o:Expr} {es:List Expr} {kws:List Keyword} {te ta:TE} {t tk:TA} {nm:Option Str}
structure KBinds (K:PySem.W.Frag) (fd:FuncData) (ps ks:List Str) (g:List Value->List Value->List Value) (gV:List V->List V->List V):Prop where
  to:∀ (s:Shared) (us ws:List Value),K.In s.heap->(g us ws).length=ps.length->BindsTo s fd ⟨us,ks.zip ws⟩ (ps.zip (g us ws))
  rel:∀ {vs:List V} {us:List Value} {zs:List V} {ws:List Value},Vals vs us->Vals zs ws->Vals (gV vs zs) (g us ws)
variable {g:List Value->List Value->List Value} {gV:List V->List V->List V}
end
structure FnScope (N P:List Str) (sc:Scope):Prop where
  kind:sc.kind= .function
  co:sc.isCoroutine=false
  gen:sc.isGenerator=false
  nd:N.Nodup
  pre:N.take P.length=P
  par:∀ x∈P,sc.names.lookup x=some .local\/sc.names.lookup x=some .cell
  nofree:∀ y∈sc.names,y.2≠ .free
theorem HD {kindOf:Str->Option NameKind} {x:Str}:∀ {binds:List (Str × Value)} {m:Str->Option Value},(∀ v,(x,v)∉binds)->bindL kindOf binds m x=m x
  | [],_,_=>rfl
  | (n,v)::r,m,h=>by
    unfold bindL;rw [HD λ w hw=>h w (Ad1 _ hw)];split
    · have:x≠n:=by rintro rfl;exact h v Ae1
      simp [this]
    · rfl
theorem HM {kindOf:Str->Option NameKind} {x:Str}:∀ {binds:List (Str × Value)} {m:Str->Option Value},(∀ v,(x,v)∉binds)->bindC kindOf binds m x=m x
  | [],_,_=>rfl
  | (n,v)::r,m,h=>by
    unfold bindC;rw [HM λ w hw=>h w (Ad1 _ hw)];split
    · rfl
    · have:x≠n:=by rintro rfl;exact h v Ae1
      simp [this]
theorem HW {kindOf:Str->Option NameKind} {x:Str} {v:Value}:∀ {P:List Str} {vs:List Value} {i:Nat} {m:Str->Option Value},P.Nodup->P[i]?=some x->vs[i]?=some v->kindOf x=some .local->
    bindL kindOf (P.zip vs) m x=some v
  | [],_,_,_,_,h,_,_=>by simp at h
  | _::_,[],_,_,_,_,h,_=>by simp at h
  | p::P,w::vs,0,m,nd,h1,h2,hk=>by
    simp at h1 h2;subst h1;subst h2;show bindL kindOf ((p,w)::P.zip vs) m p=_;unfold bindL;rw [HD λ v hv=>(Ag2.mp nd).1 (List.of_mem_zip hv).1,if_pos hk];simp
  | p::P,w::vs,i+1,m,nd,h1,h2,hk=>by
    show bindL kindOf ((p,w)::P.zip vs) m x=_;unfold bindL;exact HW (i:=i) (Ag2.mp nd).2 (by simpa using h1) (by simpa using h2) hk
theorem HY {kindOf:Str->Option NameKind} {x:Str} {v:Value}:∀ {P:List Str} {vs:List Value} {i:Nat} {m:Str->Option Value},P.Nodup->P[i]?=some x->vs[i]?=some v->kindOf x≠some .local->
    bindC kindOf (P.zip vs) m x=some v
  | [],_,_,_,_,h,_,_=>by simp at h
  | _::_,[],_,_,_,_,h,_=>by simp at h
  | p::P,w::vs,0,m,nd,h1,h2,hk=>by
    simp at h1 h2;subst h1;subst h2;show bindC kindOf ((p,w)::P.zip vs) m p=_;unfold bindC;rw [HM λ v hv=>(Ag2.mp nd).1 (List.of_mem_zip hv).1,if_neg hk];simp
  | p::P,w::vs,i+1,m,nd,h1,h2,hk=>by
    show bindC kindOf ((p,w)::P.zip vs) m x=_;unfold bindC;exact HY (i:=i) (Ag2.mp nd).2 (by simpa using h1) (by simpa using h2) hk
def start (N:List Str) (vs:List V):St:=vs.map some++Ad5 (N.length - vs.length) none
def Mn (CX:CXT) (P:Program) (w:World) (K:PySem.W.Frag) (mg:Str->Option Value) (base:Heap) (N:List Str) (qual:Str) (scope:Scope) (f:Addr) (cd:Value) (A:Around) (outer:List Env) (s:Shared) (H:Hp) (E:XK):Cx where
  prog:=P
  w:=w
  K:=K
  mg:=mg
  base:=base
  A:=A.deeper (envOfC qual scope s.heap.objs.size f cd)
  N:=N
  s₀:=s
  H₀:=H
  env:=envOfC qual scope s.heap.objs.size f cd
  outer:=outer
  stack:=envOfC qual scope s.heap.objs.size f cd::outer
  ex:=[]
  calm:=true
  fn:=λ _=>true
  pn:=[]
  xe:=λ e s'=>wpAny (model P w) (A.deeper (envOfC qual scope s.heap.objs.size f cd)) (leaving (envOfC qual scope s.heap.objs.size f cd) e) (λ _ s''=>CX outer H s E e s'') (λ e' s''=>CX outer H s E e' s'') s'
theorem JF {sc:Scope} {n:Nat} {x:Str} (h:sc.names.lookup x=some .cell):∃ c,(cellsFrom n sc.names []).lookup x=some c:=by
  have q:=PySem.W.cellsFrom_some sc.names n [] (.inl h);exact Option.isSome_iff_exists.mp q
theorem MD {CX:CXT} {P:Program} {w:World} {K:PySem.W.Frag} {mg:Str->Option Value} {base:Heap} {N ps:List Str} {qual:Str} {scope:Scope} {f:Addr} {cd:Value} {A:Around} {outer:List Env} {s s1:Shared} {H:Hp} {E:XK} {us:List Value} {vs:List V}
    (S:FnScope N ps scope) (hd:A.handled=none) (e0:Env0 P w K mg base A outer s H) (hl:vs.length=ps.length) (r:Vals vs us)
    (x:InCallC s s.heap.objs.size (bindL (envOfC qual scope s.heap.objs.size f cd).kindOf (ps.zip us) λ _=>none) (cellsFrom (s.heap.objs.size+1) scope.names []) (bindC (envOfC qual scope s.heap.objs.size f cd).kindOf (ps.zip us) λ _=>none) s1):
    Inv (Mn CX P w K mg base N qual scope f cd A outer s H E) [] (start N vs) H s1:=by
  have hpl:ps.length<=N.length:=by have:=congrArg List.length S.pre;rw [Ag8] at this;omega
  obtain ⟨h1,tk,rfl,hk⟩:=x.done;have noA:∀ b:Addr,b∉(Mn CX P w K mg base N qual scope f cd A outer s H E).ex:=λ b z=>absurd (show b∈([]:List Addr) from z) (by simp);refine ⟨⟨e0.mod,S.kind,rfl,rfl,Aa6 _,λ y z c h1 h2=> ?_,λ y hy=> ?_,λ y c _ h=> ?_,λ _=>hd,Around.frames_deeper e0.frames, .inr ⟨rfl,rfl⟩,λ b z=>absurd z (noA b),e0.bs,e0.bsz,λ b _ _=>noA b,λ b z=>absurd z (noA b),e0.funs,e0.frf⟩,
    rfl,e0.bare,Un.kept hk,⟨_,x.toInCall.ns,λ i y v h1 h2 h3=> ?_⟩,λ y c h=>⟨_,x.cell y c h⟩,e0.hok.fresh (Aa6 _),λ y c h=> ?_,λ p hp=>absurd (show p∈([]:List (Addr × Obj)) from hp) (by simp),e0.hok.kept hk,?_⟩
  · exact name_of_addr x.apart (PySem.mem_of_lookup h1) (PySem.mem_of_lookup h2)
  · have hy:scope.names.lookup y=some .cell\/scope.names.lookup y=some .free:=hy;rcases hy with hy | hy
    · exact JF hy
    · exact absurd rfl (S.nofree _ (PySem.mem_of_lookup hy))
  · exact Ai4 (x.above y c (PySem.mem_of_lookup h))
  · have hi:i<vs.length:=by
      unfold start at h2;by_cases hi:i<vs.length
      · exact hi
      · rw [Ac6 (by simpa using hi)] at h2;rw [List.getElem?_replicate] at h2;split at h2 <;> cases h2
    have ha:vs[i]?=some v:=by
      unfold start at h2;rw [Ab5 (by simpa using hi),Aa8] at h2;cases e:vs[i]? with
      | none=>rw [e] at h2;cases h2
      | some a=>rw [e] at h2;cases h2;rfl
    obtain ⟨u,hu,rv⟩:=r.get ha;have hp:ps[i]?=some y:=by
      rw [<-S.pre,List.getElem?_take_of_lt (by omega)];exact h1
    have ndP:ps.Nodup:=by rw [<-S.pre];exact S.nd.sublist (List.take_sublist _ _)
    refine ⟨u,rv,?_⟩;rcases S.par y (Ad0 hp) with k | k
    · exact .inl ⟨k,HW ndP hp hu k⟩
    · obtain ⟨c,e⟩:=JF (n:=s.heap.objs.size+1) k;refine .inr ⟨.inl k,c,e,?_⟩;have q:=x.cell y c e;rw [HY ndP hp hu (by show scope.names.lookup y≠_;rw [k];decide)] at q;exact q
  · exact e0.hok.fresh (Ai4 (x.above y c (PySem.mem_of_lookup h)))
  · unfold start;show _=N.length;rw [Ab0,Aa2,List.length_replicate];omega
theorem Um {CX:CXT} {P:Program} {w:World} {K:PySem.W.Frag} {mg:Str->Option Value} {base:Heap} {k:Nat} {f:Addr} {name qual:Str} {params:Arguments} {body:List Stmt} {scope:Scope} {dV kV doc pm cdv ct oc:Value} {an od:Option Addr}
    {osl:Array (Option Value)} {N ps:List Str} {sp:Sp} (lk:K.lookup f=some ⟨oc,od, .func (PySem.W.fnOf name qual params body scope dV kV doc pm an cdv ct),osl⟩) (hcd:PySem.W.codeIn K cdv qual=true) (S:FnScope N ps scope)
    (len:∀ vs H Q E,sp vs H Q E->vs.length=ps.length)
    (hbody:∀ (A:Around) (outer:List Env) (s:Shared) (H:Hp) (vs:List V) (Q:VK) (E:XK),Room k (A.deeper (envOfC qual scope s.heap.objs.size f cdv))->sp vs H Q E->
      ∃ t,PSs (Mn CX P w K mg base N qual scope f cdv A outer s H E) body t/\t { nx:=λ _ H'=>Q .non H',rt:=Q } (start N vs) H):
    FnOk P w K mg base CX (k+1) f (PySem.W.fnOf name qual params body scope dV kV doc pm an cdv ct) ps sp:=by
  refine ⟨len,λ A outer s H args us vs Q E hr e0 hb r hsp=> ?_⟩;have hl:=len _ _ _ _ hsp;have KX:K.In s.heap:=e0.mod.kin.keeps λ b o e=>(e0.bs b o e).1;have lim:s.heap.NoLimit:=e0.mod.nolimit.keeps λ b o e=>(e0.bs b o e).1;have hkind:∀ y∈ps.zip us,scope.names.lookup y.1=some .local\/(scope.names.lookup y.1=some .cell/\((cellsFrom (s.heap.objs.size+1) scope.names []).lookup y.1).isSome=true):=λ ⟨n,v⟩ hy=>by
    rcases S.par n (List.of_mem_zip hy).1 with q | q
    · exact .inl q
    · exact .inr ⟨q,PySem.W.cellsFrom_some _ _ _ (.inl q)⟩
  refine codeAny_call_function hr.depth (KX _ _ lk) rfl S.co S.gen rfl (PySem.W.codeRec_of KX hcd) (hb _ _ _ _ ?_);refine wpAny_newFunctionEnv_cells S.kind hkind λ env he s1 x=> ?_;subst he;refine ⟨lim.keeps x.toInCall.keep,codeAny_func ?_⟩;obtain ⟨t,ht,hq⟩:=hbody A outer s H vs Q E (hr.deeper _) hsp;have I:Inv (Mn CX P w K mg base N qual scope f cdv A outer s H E) [] (start N vs) H s1:=MD S hr.hd e0 hl r x;refine Ag6 (ht [] s1 (start N vs) H _ I hq) (λ fl s' hs=> ?_) λ e s' hs=>hs;have fin:∀ {σ':St} {H':Hp} {v:V} {u:Value},Inv (Mn CX P w K mg base N qual scope f cdv A outer s H E) [] σ' H' s'->RelV v u->Q v H'->CE outer P w H s Q u s':=
    λ {σ' H' v u} J rv q=>⟨v,H',J.os,J.bare,J.base,J.hok,rv,q⟩
  cases fl with
  | ret u=>
    obtain ⟨v,σ',H',J,rv,q⟩:=hs;exact fin J rv q
  | next=>
    obtain ⟨σ',H',J,q⟩:=hs;exact fin (v:=V.non) (u:=Value.none) J rfl q
  | brk=>
    obtain ⟨_,_,_,q⟩:=hs;exact False.elim q
  | cont=>
    obtain ⟨_,_,_,q⟩:=hs;exact False.elim q
section
variable {X:Cx} {x:Str} {p pos:Pos} {e:Expr} {es:List Expr} {t:TA} {id T:String} {r:List V->Hp->VK->Prop}
def tCB (r:List V->Hp->VK->Prop) (t:TA):TE:=λ σ H Q=>t σ H λ vs H1=>r vs H1 Q
theorem Am (hc:Bh X (.builtin id) r) (hg:Gl X x) (hm:X.mg x=none) (hv:bootBuiltins x=some (.builtin id)) (ha:PA X (e::es) t) (hn:x≠"__name__":=by decide) (hdb:(x == ("__debug__":Str))=false:=by decide)
    (he:starEach (e::es) X.env=(false,eval e X.env)::starEach es X.env:=by rfl) (hpl:(backTo pos (starEach es X.env)).any (·.1)=false:=by rfl):PE X (.Call (.Name x p) (e::es) [] pos) (tCB r t):=by
  intro pins s σ H Q I h;refine Aj1 (BX I hg hm hv ?_ hn hdb);exact PyProof.Rows.callWith_builtin1 (thn (ha pos pins s σ H _ I h) λ us s1 ⟨vs,H1,I1,r1,q1⟩=>hc pins s1 σ H1 vs us Q I1 r1 q1) he hpl
theorem Cy (hc:Bh X (.type T) r) (hg:Gl X x) (hm:X.mg x=none) (hv:bootBuiltins x=some (.type T)) (ha:PA X (e::es) t) (hn:x≠"__name__":=by decide) (hdb:(x == ("__debug__":Str))=false:=by decide)
    (he:starEach (e::es) X.env=(false,eval e X.env)::starEach es X.env:=by rfl) (hpl:(backTo pos (starEach es X.env)).any (·.1)=false:=by rfl):PE X (.Call (.Name x p) (e::es) [] pos) (tCB r t):=by
  intro pins s σ H Q I h;refine Aj1 (BX I hg hm hv ?_ hn hdb);exact PyProof.Rows.callWith_type1 (thn (ha pos pins s σ H _ I h) λ us s1 ⟨vs,H1,I1,r1,q1⟩=>hc pins s1 σ H1 vs us Q I1 r1 q1) he hpl
end
end L2
namespace HT
open PySem PyProof.Rows
section
open PySem.SeqAt
open PySem.AutoSeq1 (wpAny_loadPart')
open PySem.MeetsSeq PySem.MeetsSeq2 PySem.MeetsSeq3
end
section
variable {prog:Program} {w:World} {A:Around} {E:Value->Shared->Prop} {s:Shared}
def sIx (n d:Nat):Option Int->Nat
  | none=>d
  | some v=>if v<0 then (v+(n:Int)).toNat else min v.toNat n
theorem sIx_none (n d:Nat):sIx n d none=d:=rfl
end
end HT
namespace L2
open PySem PySem.Spec PyProof.Rows
abbrev TO:=St->Hp->(Option Int->Hp->Prop)->Prop
def PO (X:Cx) (e:Option Expr) (t:TO):Prop:=
  ∀ (pins:List (Addr × Obj)) (s:Shared) (σ:St) (H:Hp) (Q:Option Int->Hp->Prop),Inv X pins σ H s->t σ H Q->
    wpAny (model X.prog X.w) X.A (evalPart e X.env) (λ u s'=>∃ o H',Inv X pins σ H' s'/\IsPart u o/\Q o H') X.xe s
def K4:TO:=λ _ H Q=>Q none H
def QC (t:TE):TO:=λ σ H Q=>t σ H λ x H1=>∃ i,x= .int i/\Q (some i) H1
theorem Gi {ns:List Int}:∀ {us:List Value},Vals (ns.map V.int) us->IntsAre us ns:=by
  induction ns with
  | nil=>intro us r;rw [List.map_nil] at r;cases r;exact .nil
  | cons n ns ih=>
    intro us r;rw [Af0] at r;cases r with
    | cons r1 r2=>
      obtain ⟨t,e⟩:=r1;subst e;exact .cons n t (ih r2)
section
variable {X:Cx} {e:Expr} {te:TE} {lo hi:Option Expr} {tl th:TO} {pos p2:Pos}
theorem Ip:PO X none K4:=by
  intro pins s σ H Q I h;rw [evalPart_none];exact Aa7 ⟨none,H,I, .none,h⟩
theorem Ik (h:PE X e te):PO X (some e) (QC te):=by
  intro pins s σ H Q I hw;rw [evalPart_some];refine thn (h pins s σ H _ I hw) λ u s1 ⟨x,H1,I1,r1,q1⟩=> ?_;obtain ⟨i,rfl,q⟩:=q1;obtain ⟨t,rfl⟩:=r1;exact ⟨some i,H1,I1, .int i t,q⟩
def SlR (X:Cx) (r:V->Option Int->Option Int->Hp->VK->Prop):Prop:=
  ∀ (pins:List (Addr × Obj)) (s:Shared) (σ:St) (H:Hp) (x:V) (v vl vu:Value) (lo hi:Option Int) (sl:Addr) (Q:VK),Inv X pins σ H s->RelV x v->s.heap.IsSliceOf sl vl vu .none->IsPart vl lo->IsPart vu hi->r x lo hi H Q->
    ∃ T id,typeLookup (.type T) "__getitem__"=pure (some (.builtin id))/\s.TypeIs v T/\wpAny (model X.prog X.w) X.A (getItem v (.ref sl)) (EP X pins σ Q) X.xe s
def tSl (r:V->Option Int->Option Int->Hp->VK->Prop) (te:TE) (tl th:TO):TE:=λ σ H Q=>te σ H λ x H1=>tl σ H1 λ l H2=>th σ H2 λ u H3=>r x l u H3 Q
theorem Gb {r:V->Option Int->Option Int->Hp->VK->Prop} (hr:SlR X r) (he:PE X e te) (hl:PO X lo tl) (hu:PO X hi th):PE X (.Subscript e (.Slice lo hi none p2) pos) (tSl r te tl th):=by
  intro pins s σ H Q I h;refine Subscript_ (thn (he pins s σ H _ I h) λ v s1 ⟨x,H1,I1,r1,q1⟩=> ?_);refine wpAny_Slice (thn (hl pins s1 σ H1 _ I1 q1) λ vl s2 ⟨l,H2,I2,pl,q2⟩=>thn (hu pins s2 σ H2 _ I2 q2) λ vu s3 ⟨u,H3,I3,pu,q3⟩=> ?_);rw [evalPart_none];refine Aa7 ?_;have I4:Inv X pins σ H3 { s3 with heap:=s3.heap.push { cls:= .type "slice",data:= .fields #[vl,vu, .none] } }:=I3.kept (t':=s3.toks) λ b ob q=>Aa4 _ q;obtain ⟨T,id,hT,ht,hg⟩:=hr pins { s3 with heap:=s3.heap.push { cls:= .type "slice",data:= .fields #[vl,vu, .none] } } σ H3 x v vl vu l u s3.heap.objs.size Q I4 r1 (Heap.IsSliceOf.new ..) pl pu q3;show wpAny (model X.prog X.w) X.A (subscriptTail e (.Slice lo hi none p2) v (.ref s3.heap.objs.size)) (EP X pins σ Q) X.xe { s3 with heap:=s3.heap.push { cls:= .type "slice",data:= .fields #[vl,vu, .none] } };exact tail_any (ops:=[.ref s3.heap.objs.size,v]) ht hT hg (by with_unfolding_all rfl)
def GC (xs:List V) (lo hi:Option Int):List V:=(xs.drop (HT.sIx xs.length 0 lo)).take (HT.sIx xs.length xs.length hi - HT.sIx xs.length 0 lo)
theorem Ja (xs:List V) (lo hi:Option Int):(GC xs lo hi).length<=xs.length:=by
  unfold GC;rw [Ag8,Ai5];omega
end
def ixN (n:Nat) (i:Int):Option Nat:=if 0<=i then (if i<n then some i.toNat else none) else if -(n:Int)<=i then some (i+n).toNat else none
def atI {α:Type} (xs:List α) (i:Int):Option α:=(ixN xs.length i).bind λ j=>xs[j]?
theorem PP {n:Nat} {i:Int} {j:Nat} (h:ixN n i=some j):seqIndex? i n=some j/\j<n/\ -(n:Int)<=i/\i<n:=by
  unfold ixN at h;by_cases h0:0<=i
  · rw [if_pos h0] at h;by_cases h1:i<n
    · rw [if_pos h1] at h;have e:i.toNat=j:=Ae7.inj h;exact ⟨by rw [seqIndex_of h0 h1,e],by omega,by omega,h1⟩
    · rw [if_neg h1] at h;cases h
  · rw [if_neg h0] at h;by_cases h1: -(n:Int)<=i
    · rw [if_pos h1] at h;have e:(i+n).toNat=j:=Ae7.inj h;exact ⟨by rw [seqIndex_neg (by omega) h1,e],by omega,h1,by omega⟩
    · rw [if_neg h1] at h;cases h
theorem LD {α:Type} {xs:List α} {i:Int} {v:α} (h:atI xs i=some v):∃ j,seqIndex? i xs.length=some j/\xs[j]?=some v/\j<xs.length/\ -(xs.length:Int)<=i/\i<xs.length:=by
  unfold atI at h;cases e:ixN xs.length i with
  | none=>rw [e] at h;cases h
  | some j=>
    rw [e] at h;obtain ⟨h1,h2,h3,h4⟩:=PP e;exact ⟨j,h1,h,h2,h3,h4⟩
theorem AT {α:Type} {xs:List α} {j:Nat} {v:α} (h:xs[j]?=some v):atI xs (j:Int)=some v:=by
  have hj:j<xs.length:=(Ab1.mp h).1;have e:ixN xs.length (j:Int)=some j:=by
    unfold ixN;rw [if_pos (by omega),if_pos (by omega)];simp
  unfold atI;rw [e];exact h
def OR (b:Expr):Prop:=∀ o i,subscripted b false o i=operate [o,i] (getItem o i)
def IxR (X:Cx) (r:R2):Prop:=
  ∀ (value slice:Expr) (pins:List (Addr × Obj)) (s:Shared) (σ:St) (H:Hp) (x y:V) (v u:Value) (Q:VK),Inv X pins σ H s->RelV x v->RelV y u->r x y H Q->
    subscripted slice false v u=operate [v,u] (getItem v u)->wpAny (model X.prog X.w) X.A (subscriptTail value slice v u) (EP X pins σ Q) X.xe s
def MtR (X:Cx) (id:String) (r:V->List V->Hp->VK->Prop):Prop:=
  ∀ (pins:List (Addr × Obj)) (s:Shared) (σ:St) (H:Hp) (x:V) (xs:List V) (v:Value) (us:List Value) (Q:VK),Inv X pins σ H s->RelV x v->Vals xs us->r x xs H Q->
    wpAny (model X.prog X.w) X.A (call (.builtin id) (v::us)) (EP X pins σ Q) X.xe s
section
variable {X:Cx} {a b:Expr} {ta tb:TE} {pos:Pos}
theorem AX {r:R2} (hr:IxR X r) (ha:PE X a ta) (hb:PE X b tb) (hs:OR b):PE X (.Subscript a b pos) (tOp r ta tb):=by
  intro pins s σ H Q I h;exact Subscript_ (RQ ha hb I h λ v u s2 x y H2 I2 rx ry q=>hr a b pins s2 σ H2 x y v u Q I2 rx ry q (hs _ _))
def Sz (K:PySem.W.Frag):R2:=λ x y H Q=>∃ p xs i v,x= .ref p/\y= .int i/\SqL K H p xs/\atI xs i=some v/\Q v H
def RN (K:PySem.W.Frag):R2:=λ x y H Q=>∃ p xs i v,x= .ref p/\y= .int i/\SqT K H p xs/\atI xs i=some v/\Q v H
theorem Pu:IxR X (Sz X.K):=by
  intro value slice pins s σ H x y v u Q I rx ry h hs;obtain ⟨p,xs,i,z,rfl,rfl,hq,he,q⟩:=h;cases rx;obtain ⟨t,rfl⟩:=ry;obtain ⟨its,r,pl,hz⟩:=I.list hq;obtain ⟨j,h1,h2,h3,h4,h5⟩:=LD he;obtain ⟨w,ew,rw'⟩:=r.get h2;have hl:=r.length;have hn:=Iw;have fin:EP X pins σ Q w s:=⟨z,H,I,rw',q⟩;by_cases h0:0<=i
  · have hj:i.toNat=j:=by
      rw [seqIndex_of h0 h5] at h1;exact Ae7.inj h1
    exact item_listR pl.isList h0 (by omega) (by rw [hj];simpa using ew) fin hs
  · have hj:(i+(its.toArray.size:Int)).toNat=j:=by
      rw [seqIndex_neg (by omega) h4] at h1;rw [Ab8, <-hl];exact Ae7.inj h1
    exact subscriptTail_builtinR (x:=w) pl.isList.typeIs slot_list_getitem.lookup
      (wpAny_getItem_list_neg (Q:=λ r s'=>r=w/\EP X pins σ Q r s') pl.isList (by omega) (by rw [Ab8] <;> omega) (by omega) (by rw [hj];simpa using ew) ⟨rfl,fin⟩) hs
theorem RJ:IxR X (RN X.K):=by
  intro value slice pins s σ H x y v u Q I rx ry h hs;obtain ⟨p,xs,i,z,rfl,rfl,hq,he,q⟩:=h;cases rx;obtain ⟨t,rfl⟩:=ry;obtain ⟨its,r,pl,hz⟩:=I.tuple hq;obtain ⟨j,h1,h2,h3,h4,h5⟩:=LD he;obtain ⟨w,ew,rw'⟩:=r.get h2;have hl:=r.length;have hn:=Iw;have fin:EP X pins σ Q w s:=⟨z,H,I,rw',q⟩;exact subscriptTail_builtinR (x:=w) pl.typeIs slot_tuple_getitem.lookup
    (getItem_tuple (j:=j) (Q:=λ r s'=>r=w/\EP X pins σ Q r s') pl (by omega) (by omega) (by rw [Ab8, <-hl];exact h1) (by simpa using ew) ⟨rfl,fin⟩) hs
theorem Inv.lst {pins:List (Addr × Obj)} {σ:St} {H:Hp} {s:Shared} {p:Addr} {xs:List V} (I:Inv X pins σ H s) (h:H p=some (.lst xs)):
    ∃ (its:List Value) (n:Nat),Vals xs its/\s.heap.get? p=some { cls:= .type "list",data:= .seq its.toArray n }/\xs.length<=sizeLine:=by
  obtain ⟨z,its,n,r,e⟩:=I.hok p _ h;exact ⟨its,n,r,e,z⟩
theorem Ie (lo hi:Option Int) (n:Nat):(sliceBounds lo hi none n).1=((HT.sIx n 0 lo:Nat):Int)/\(sliceBounds lo hi none n).2.1=((HT.sIx n n hi:Nat):Int)/\(sliceBounds lo hi none n).2.2=1:=by
  refine ⟨?_,?_,rfl⟩
  · cases lo with
    | none=>simp [sliceBounds,HT.sIx]
    | some i=>
      simp only [sliceBounds,HT.sIx,Option.getD_none,show (1:Int)>0 by decide,if_true];by_cases h:i<0
      · simp only [h,if_true] <;> omega
      · simp only [h,if_false] <;> omega
  · cases hi with
    | none=>simp [sliceBounds,HT.sIx]
    | some i=>
      simp only [sliceBounds,HT.sIx,Option.getD_none,show (1:Int)>0 by decide,if_true];by_cases h:i<0
      · simp only [h,if_true] <;> omega
      · simp only [h,if_false] <;> omega
theorem Hj (its:List Value) (lo hi:Option Int):slicePick its.toArray lo hi none=((its.drop (HT.sIx its.length 0 lo)).take (HT.sIx its.length its.length hi - HT.sIx its.length 0 lo)).toArray:=by
  obtain ⟨h1,h2,h3⟩:=Ie lo hi its.toArray.size;unfold slicePick;rw [h1,h2,h3];simp only [sliceRange_one,pick_run,Ab8] <;> rfl
def Sv (K:PySem.W.Frag):V->Option Int->Option Int->Hp->VK->Prop:=λ x lo hi H Q=>∃ a xs,x= .ref a/\SqL K H a xs/\∀ p,H p=none->Q (.ref p) (upd H p (.lst (GC xs lo hi)))
theorem O4:SlR X (Sv X.K):=by
  intro pins s σ H x v vl vu lo hi sl Q I rx hs pl pu h;obtain ⟨a,xs,rfl,hx,q⟩:=h;cases rx;obtain ⟨its,r,ht,hz⟩:=I.list hx;have hlen:=r.length;refine ⟨"list",_,slot_list_getitem.lookup,ht.isList.typeIs,?_⟩;refine wpAny_getItem_list_slice ht.isList hs pl pu .none (by simp) ?_ (by rw [Ab8] <;> omega);rw [Hj, <-hlen];refine ⟨.ref s.heap.objs.size,_,I.laid (t':=s.toks) (o:= .lst (GC xs lo hi)) (λ b ob q=>Aa4 _ q) (Aa6 _) ?_,rfl,q _ (I.hok.fresh (Aa6 _))⟩;exact ⟨Ae0 (Ja xs lo hi) hz,_,0,(r.drop (HT.sIx xs.length 0 lo)).take (HT.sIx xs.length xs.length hi - HT.sIx xs.length 0 lo),Ab3 _ rfl⟩
def Bq:V->Bool
  | .non=>true
  | .bl _=>true
  | .int _=>true
  | .str _=>true
  | _=>false
def eqV:V->V->Bool
  | .non, .non=>true
  | .bl a, .bl b=>a == b
  | .bl a, .int b=>(if a then 1 else 0) == b
  | .int a, .bl b=>a == (if b then 1 else 0)
  | .int a, .int b=>a == b
  | .str a, .str b=>a == b
  | _,_=>false
theorem NC {A:Around} {s:Shared} {y x:V} {u v:Value} (ry:RelV y u) (rx:RelV x v) (fy:Bq y=true) (fx:Bq x=true):SeqAt.EqAt A s u v (eqV y x):=by
  cases y with
  | non=>
    cases ry;cases x with
    | non=>cases rx;exact SeqAt.EqAt.same _
    | bl b=>cases rx;exact SeqAt.EqAt.none_bool b
    | int b=>obtain ⟨t,rfl⟩:=rx;exact SeqAt.EqAt.none_int b t
    | str b=>obtain ⟨t,rfl⟩:=rx;exact SeqAt.EqAt.none_str b t
    | _=>exact absurd (show false=true from fx) Ab4
  | bl a=>
    cases ry;cases x with
    | non=>cases rx;exact SeqAt.EqAt.bool_none a
    | bl b=>cases rx;exact SeqAt.EqAt.bool_bool a b
    | int b=>obtain ⟨t,rfl⟩:=rx;exact SeqAt.EqAt.bool_int a b t
    | str b=>obtain ⟨t,rfl⟩:=rx;exact SeqAt.EqAt.bool_str a b t
    | _=>exact absurd (show false=true from fx) Ab4
  | int a=>
    obtain ⟨t',rfl⟩:=ry;cases x with
    | non=>cases rx;exact SeqAt.EqAt.int_none a t'
    | bl b=>cases rx;exact SeqAt.EqAt.int_bool a t' b
    | int b=>obtain ⟨t,rfl⟩:=rx;exact SeqAt.EqAt.int_int a t' b t
    | str b=>obtain ⟨t,rfl⟩:=rx;exact SeqAt.EqAt.int_str a t' b t
    | _=>exact absurd (show false=true from fx) Ab4
  | str a=>
    obtain ⟨t',rfl⟩:=ry;cases x with
    | non=>cases rx;exact SeqAt.EqAt.str_none a t'
    | bl b=>cases rx;exact SeqAt.EqAt.str_bool a t' b
    | int b=>obtain ⟨t,rfl⟩:=rx;exact SeqAt.EqAt.str_int a t' b t
    | str b=>obtain ⟨t,rfl⟩:=rx;exact SeqAt.EqAt.str_str a t' b t
    | _=>exact absurd (show false=true from fx) Ab4
  | _=>exact absurd (show false=true from fy) Ab4
def eqU (x:V) (u:Value):Bool:=match u with
  | .none=>eqV .non x
  | .bool b=>eqV (.bl b) x
  | .int i _=>eqV (.int i) x
  | .str z _=>eqV (.str z) x
  | _=>false
theorem N4 {x y:V} {u:Value} (r:RelV y u) (f:Bq y=true):eqU x u=eqV y x:=by
  cases y with
  | non=>cases r;rfl
  | bl b=>cases r;rfl
  | int i=>obtain ⟨t,rfl⟩:=r;rfl
  | str z=>obtain ⟨t,rfl⟩:=r;rfl
  | _=>exact absurd (show false=true from f) Ab4
theorem IK {x:V}:∀ {xs:List V} {us:List Value},Vals xs us->xs.all Bq=true->us.any (eqU x)=xs.any λ y=>eqV y x
  | _,_, .nil,_=>rfl
  | y::xs,u::us, .cons r t,f=>by
    rw [List.all_cons,Ag9] at f;rw [List.any_cons,List.any_cons,N4 r f.1,IK t f.2]
theorem GB {A:Around} {s:Shared} {x:V} {v:Value} (rx:RelV x v) (fx:Bq x=true):∀ {xs:List V} {us:List Value},Vals xs us->xs.all Bq=true->∀ u∈us,SeqAt.EqAt A s u v (eqU x u)
  | _,_, .nil,_=>λ u hu=>by cases hu
  | y::xs,u::us, .cons r t,f=>λ u' hu=>by
    rw [List.all_cons,Ag9] at f;rcases Ac2.mp hu with rfl | hu
    · rw [N4 r f.1];exact NC r rx f.1 fx
    · exact GB rx fx t f.2 u' hu
def inV (x:V) (xs:List V):Bool:=xs.any λ y=>eqV y x
def rIn (K:PySem.W.Frag) (neg:Bool):R2:=λ x y H Q=>∃ p xs,y= .ref p/\(SqL K H p xs\/SqT K H p xs)/\Bq x=true/\xs.all Bq=true/\Q (.bl (if neg then !inV x xs else inV x xs)) H
theorem Iu:OpR X (compareOp .NotIn) (rIn X.K true):=by
  intro pins s σ H x y v u Q I rx ry h;obtain ⟨p,xs,rfl,hq,fx,fs,q⟩:=h;cases ry;rcases hq with hq | hq
  · obtain ⟨its,r,pl,hz⟩:=I.list hq;refine SeqAt.notIn_listAt (eqU x) pl.isList (λ w hw=>GB rx fx r fs w (by simpa using hw)) ⟨.bl _,H,I,rfl,?_⟩;rw [show its.toArray.any (eqU x)=its.any (eqU x) by simp,IK r fs];exact q
  · obtain ⟨its,r,pl,hz⟩:=I.tuple hq;refine SeqAt.notIn_tupleAt (eqU x) pl (λ w hw=>GB rx fx r fs w (by simpa using hw)) ⟨.bl _,H,I,rfl,?_⟩;rw [show its.toArray.any (eqU x)=its.any (eqU x) by simp,IK r fs];exact q
theorem IH:Bh X (.type "list") (λ xs H Q=>∃ p ys,xs=[.ref p]/\(SqL X.K H p ys\/SqT X.K H p ys)/\∀ l,H l=none->Q (.ref l) (upd H l (.lst ys))):=by
  intro pins s σ H xs us Q I r h;obtain ⟨p,ys,rfl,hq,q⟩:=h;obtain ⟨u,rfl,rx⟩:=Ds r;cases rx;have fin:∀ (its:List Value),Vals ys its->ys.length<=sizeLine->∀ (h':Heap) (c':Nat),(∀ b o',s.heap.get? b=some o'->h'.get? b=some o')->
      h'.get? s.heap.objs.size=some { cls:= .type "list",dict:=none,data:= .seq its.toArray c',slots:= #[] }->EP X pins σ Q (.ref s.heap.objs.size) { s with heap:=h' }:=λ its r' hz h' c' kp e=>
    ⟨.ref s.heap.objs.size,_,I.laid (t':=s.toks) kp (Aa6 _) (show ObjOk X.prog X.w _ h' _ (.lst ys) from ⟨hz,its,c',r',e⟩),rfl,q _ (I.hok.fresh (Aa6 _))⟩
  rcases hq with hq | hq
  · obtain ⟨its,r',pl,hz⟩:=I.list hq;have hlen:=r'.length;obtain ⟨o,ho,hc,n,hd⟩:=pl.isList;exact call_list_seq p (.inl rfl) ho hc hd (λ h' c' kp e=>fin its r' hz h' c' kp e) (by simp only [Ab8] <;> omega)
  · obtain ⟨its,r',pl,hz⟩:=I.tuple hq;have hlen:=r'.length;obtain ⟨o,ho,hc,n,hd⟩:=pl;exact call_list_seq p (.inr rfl) ho hc hd (λ h' c' kp e=>fin its r' hz h' c' kp e) (by simp only [Ab8] <;> omega)
theorem Hi:Bh X (.type "tuple") (λ xs H Q=>∃ p ys,xs=[.ref p]/\((SqL X.K H p ys/\∀ l,H l=none->Q (.ref l) (upd H l (.tup ys)))\/(SqT X.K H p ys/\Q (.ref p) H))):=by
  intro pins s σ H xs us Q I r h;obtain ⟨p,ys,rfl,h⟩:=h;obtain ⟨u,rfl,rx⟩:=Ds r;cases rx;rcases h with ⟨hq,q⟩ | ⟨hq,q⟩
  · obtain ⟨its,r',pl,hz⟩:=I.list hq;have hlen:=r'.length;refine call_tuple_list pl.isList (λ h' kp=> ?_) (by simp only [Ab8] <;> omega);have I1:Inv X pins σ H { s with heap:=h' }:=I.kept (t':=s.toks) kp;have I2:Inv X pins σ (upd H h'.objs.size (.tup ys)) { s with heap:=h'.push { cls:= .type "tuple",data:= .seq its.toArray } }:=
      I1.laid (t':=s.toks) (λ b o e=>Aa4 _ e) (Aa6 _) (show ObjOk X.prog X.w _ _ _ (.tup ys) from ⟨hz,its,r',IsTup.new _ _⟩)
    exact ⟨.ref h'.objs.size,_,I2,rfl,q _ (I1.hok.fresh (Aa6 _))⟩
  · obtain ⟨its,r',pl,hz⟩:=I.tuple hq;exact call_tuple_same pl ⟨.ref p,H,I,rfl,q⟩
def tyV (K:PySem.W.Frag) (T:String) (x:V) (H:Hp):Prop:=match x with
  | .str _=>T="str"
  | .int _=>T="int"
  | .ref p=>(T="list"/\∃ xs,SqL K H p xs)\/(T="tuple"/\∃ o,K.lookup p=some o/\o.cls= .type "tuple"/\o.dict=none)\/
      (T="dict"/\((∃ kvs,H p=some (.dK kvs))\/∃ kvs,H p=some (.dT kvs)))\/(T="set"/\∃ S n,H p=some (.set S n))
  | _=>False
theorem Oz {pins:List (Addr × Obj)} {σ:St} {H:Hp} {s:Shared} {T:String} {x:V} {v:Value} (I:Inv X pins σ H s) (r:RelV x v) (ty:tyV X.K T x H):
    s.TypeIs v T/\∀ a,v= .ref a->∃ ob,s.heap.get? a=some ob/\ob.dict=none:=by
  cases x with
  | str z=>
    obtain ⟨t,rfl⟩:=r;cases (show T="str" from ty);exact ⟨typeIs_str s z t,λ _ e=>nomatch e⟩
  | int i=>
    obtain ⟨t,rfl⟩:=r;cases (show T="int" from ty);exact ⟨typeIs_int s i t,λ _ e=>nomatch e⟩
  | ref p=>
    cases r;rcases ty with ⟨rfl,xs,hq⟩ | ⟨rfl,o,hk,hc,hd⟩ | ⟨rfl,hk⟩ | ⟨rfl,S,n,hk⟩
    · obtain ⟨its,_,pl,_⟩:=I.list hq;refine ⟨pl.isList.typeIs,λ a e=> ?_⟩;cases e;obtain ⟨o,n,e,c,hd,_⟩:=pl;exact ⟨o,e,hd⟩
    · refine ⟨⟨o,I.kIn p o hk,hc⟩,λ a e=> ?_⟩;cases e;exact ⟨o,I.kIn _ o hk,hd⟩
    · have z:∃ o,s.heap.get? p=some o/\o.ExactDict:=by
        rcases hk with ⟨kvs,hk⟩ | ⟨kvs,hk⟩
        · obtain ⟨_,_,_,_,o,_,_,e,ex,_⟩:=I.hok p _ hk;exact ⟨o,e,ex⟩
        · obtain ⟨_,_,_,_,o,_,_,e,ex,_⟩:=I.hok p _ hk;exact ⟨o,e,ex⟩
      obtain ⟨o,e,ex⟩:=z;refine ⟨⟨o,e,ex.1⟩,λ a e2=> ?_⟩;cases e2;exact ⟨o,e,ex.2.1⟩
    · obtain ⟨o,_,_,_,e,ex,_⟩:=I.hok p _ hk;refine ⟨⟨o,e,ex.1⟩,λ a e2=> ?_⟩;cases e2;exact ⟨o,e,ex.2.1⟩
  | _=>exact False.elim ty
def S6 (K:PySem.W.Frag) (T:String) (r:V->List V->Hp->VK->Prop) (to:TE):TE:=λ σ H Q=>to σ H λ x H1=>tyV K T x H1/\r x [] H1 Q
def tBM (K:PySem.W.Frag) (T:String) (r:V->List V->Hp->VK->Prop) (to:TE) (t:TA):TE:=λ σ H Q=>to σ H λ x H1=>tyV K T x H1/\t σ H1 λ xs H2=>r x xs H2 Q
variable {o e:Expr} {es:List Expr} {to:TE} {t:TA} {name:Str} {apos cpos:Pos} {T id:String} {r:V->List V->Hp->VK->Prop}
theorem Ry (pa:PlainAttrs T) (slot:Slot T name id) (hty:typeOf (.builtin id)=pure (.type "method_descriptor")) (hm:MtR X id r) (ho:PE X o to)
    (hbase:attributeBase o name X.env (eval o X.env)=eval o X.env:=by rfl) (hline:(apos.endLine == cpos.line)=true:=by rfl):PE X (.Call (.Attribute o name apos) [] [] cpos) (S6 X.K T r to):=by
  intro pins s σ H Q I h;refine wpAny_Call_method0_late hbase hline (thn (ho pins s σ H _ I h) λ v s1 ⟨x,H1,I1,r1,ty,q1⟩=> ?_);obtain ⟨h1,h2⟩:=Oz I1 r1 ty;exact ⟨T,id,pa,slot,hty,h1,h2,Calls.callWith_builtin rfl (PySem.evalArgs_none (hm pins s1 σ H1 x [] v [] Q I1 r1 .nil q1))⟩
theorem Va (pa:PlainAttrs T) (slot:Slot T name id) (hty:typeOf (.builtin id)=pure (.type "method_descriptor")) (hm:MtR X id r) (ho:PE X o to) (ha:PA X (e::es) t)
    (hbase:attributeBase o name X.env (eval o X.env)=eval o X.env:=by rfl)
    (hfew:((backTo cpos (starEach (e::es) X.env)).all (λ x=> !x.1)&&(backToKw cpos (keywordEach [] X.env)).all (λ x=>x.1.isSome)
      && decide ((e::es).length+([]:List Keyword).length+(if ([]:List Keyword).isEmpty then 0 else 1)<30))=true:=by rfl)
    (hline:(apos.endLine == cpos.line)=true:=by rfl) (hs:starEach (e::es) X.env=(false,eval e X.env)::starEach es X.env:=by rfl) (hplain:(backTo cpos (starEach es X.env)).any (·.1)=false:=by rfl):
    PE X (.Call (.Attribute o name apos) (e::es) [] cpos) (tBM X.K T r to t):=by
  intro pins s σ H Q I h;refine wpAny_Call_method_late hbase hfew hline rfl (thn (ho pins s σ H _ I h) λ v s1 ⟨x,H1,I1,r1,ty,q1⟩=> ?_);obtain ⟨h1,h2⟩:=Oz I1 r1 ty;refine ⟨T,id,pa,slot,hty,h1,h2,?_⟩;have hA:=ha cpos pins s1 σ H1 _ I1 q1;rw [hs] at hA ⊢;refine Calls.callWith_builtin (by show (false||(backTo cpos (starEach es X.env)).any (·.1))=false;rw [hplain] <;> rfl) (Calls.evalArgs_plain ?_);exact thn hA λ us s2 ⟨vs,H2,I2,r2,q2⟩=>hm pins s2 σ H2 x vs v us Q I2 r1 r2 q2
end
def MtM (X:Cx) (id:String) (r:V->List V->Hp->VK->Prop):Prop:=
  ∀ (pins:List (Addr × Obj)) (s:Shared) (σ:St) (H:Hp) (x:V) (xs:List V) (v:Value) (us:List Value) (Q:VK),Inv X pins σ H s->RelV x v->Vals xs us->r x xs H Q->
    wpAny (model X.prog X.w) X.A (call (.builtin id) (v::us)) (EP X pins σ Q) X.xe s
theorem Vals.one:∀ {x:V} {us:List Value},Vals [x] us->∃ u,us=[u]/\RelV x u
  | _,_, .cons r .nil=>⟨_,rfl,r⟩
theorem Vals.zero:∀ {us:List Value},Vals [] us->us=[]
  | _, .nil=>rfl
theorem Vals.eraseIdx:∀ {xs:List V} {us:List Value} (i:Nat),Vals xs us->Vals (xs.eraseIdx i) (us.eraseIdx i)
  | _,_,_, .nil=> .nil
  | _,_,0, .cons _ t=>t
  | _,_,i+1, .cons r t=> .cons r (Vals.eraseIdx i t)
theorem Vals.rep {xs:List V} {us:List Value} (h:Vals xs us):∀ k:Nat,Vals (Ad5 k xs).flatten (Ad5 k us).flatten
  | 0=> .nil
  | k+1=>by
    rw [List.replicate_succ,List.replicate_succ,Aj7,Aj7];exact Vals.append h (Vals.rep h k)
theorem HH {α:Type}:∀ (l:List α) (i:Nat),(l.eraseIdx i).length<=l.length
  | [],_=>Aa6 _
  | _::_,0=>Nat.le_succ _
  | _::r,i+1=>Af9 (HH r i)
theorem Ia (its:List Value):∀ (k:Nat) (acc:List Value),
    List.foldl (λ x1 x2=>x1++x2) acc.toArray (Ad5 k its.toArray)=(acc++(Ad5 k its).flatten).toArray
  | 0,acc=>by simp
  | k+1,acc=>by
    have e:acc.toArray++its.toArray=(acc++its).toArray:=by simp
    have e2:(acc++its)++(Ad5 k its).flatten=acc++(Ad5 (k+1) its).flatten:=by
      rw [List.replicate_succ,Aj7,Af1]
    rw [<-e2, <-Ia its k (acc++its), <-e,List.replicate_succ,Ah2]
section
variable {X:Cx} {pins:List (Addr × Obj)} {σ:St} {H:Hp} {s:Shared} {l b:Addr} {xs ys zs:List V}
theorem Inv.lset {its its':List Value} {n:Nat} {f:Array Value->Array Value} {t':Nat} (I:Inv X pins σ H s) (hH:H l=some (.lst xs))
    (e:s.heap.get? l=some { cls:= .type "list",data:= .seq its.toArray n }) (hf:f its.toArray=its'.toArray) (hv:Vals ys its') (hz:ys.length<=sizeLine):
    Inv X pins σ (upd H l (.lst ys)) { s with heap:=s.heap.update l (Obj.mapSeq f),toks:=t' }:=by
  have q:=PySem.IsL.update e f;rw [hf] at q;refine I.write (x:=l) (e:=l) (by rw [hH];exact trivial) (.inl rfl) (λ b' u hb hu=>(Af7 s.heap (Obj.mapSeq f) (Ne.symm hb)).trans hu) ⟨_,q⟩ ?_;exact ⟨hz,its',_,hv,q⟩
theorem Inv.lnew {its:List Value} {t':Nat} (I:Inv X pins σ H s) (hv:Vals ys its) (hz:ys.length<=sizeLine):
    Inv X pins σ (upd H s.heap.objs.size (.lst ys)) { s with heap:=s.heap.push { cls:= .type "list",data:= .seq its.toArray },toks:=t' }:=
  I.laid (λ _ _ q=>Aa4 _ q) (Aa6 _) ⟨hz,its,0,hv,Ab3 _ rfl⟩
theorem Inv.fresh (I:Inv X pins σ H s):H s.heap.objs.size=none:=I.hok.fresh (Aa6 _)
theorem Inv.lstM (I:Inv X pins σ H s) (hH:H l=some (.lst xs)):xs.length<=sizeLine/\∃ (its:List Value) (n:Nat),Vals xs its/\xs.length=its.length/\s.heap.get? l=some { cls:= .type "list",data:= .seq its.toArray n }:=by
  obtain ⟨z,its,n,r,e⟩:=I.hok l _ hH;exact ⟨z,its,n,r,r.length,e⟩
theorem N1 {n:Nat} (h:n<=sizeLine):Builtin.List.listTooLong n=false:=by
  unfold Builtin.List.listTooLong;exact decide_eq_false (by omega)
end
section
variable {X:Cx}
def rAppend:V->List V->Hp->VK->Prop:=λ x vs H Q=>∃ l xs y,x= .ref l/\vs=[y]/\H l=some (.lst xs)/\xs.length<sizeLine/\Q .non (upd H l (.lst (xs++[y])))
theorem AG:MtM X "list.append" rAppend:=by
  intro pins s σ H x vs v us Q I rx rv h;obtain ⟨l,xs,y,rfl,rfl,hH,hz,q⟩:=h;cases rx;obtain ⟨u,rfl,ru⟩:=rv.one;obtain ⟨z,its,n,r,hl,e⟩:=I.lstM hH;refine call_meets F.slot_list_append ⟨_,e,rfl⟩ F.entry_list_append (F.args_list_append_2 _ _) (PySem.list_append l its.toArray n u (by rw [Ab8];omega)) ⟨e,?_⟩;refine ⟨.non,_,I.lset (its':=its++[u]) hH e (by simp) (r.append (.cons ru .nil)) ?_,rfl,q⟩;rw [Ab0,Af3];omega
def rPopAt:V->List V->Hp->VK->Prop:=λ x vs H Q=>∃ l xs i k y,x= .ref l/\vs=[.int i]/\H l=some (.lst xs)/\ -(2 ^ 63)<=i/\i<2 ^ 63/\seqIndex? i xs.length=some k/\xs[k]?=some y/\Q y (upd H l (.lst (xs.eraseIdx k)))
theorem M7:MtM X "list.pop" rPopAt:=by
  intro pins s σ H x vs v us Q I rx rv h;obtain ⟨l,xs,i,k,y,rfl,rfl,hH,h1,h2,hk,hy,q⟩:=h;cases rx;obtain ⟨u,rfl,ru⟩:=rv.one;obtain ⟨t,rfl⟩:=ru;obtain ⟨z,its,n,r,hl,e⟩:=I.lstM hH;obtain ⟨w,hw,rw'⟩:=r.get hy;refine call_meets F.slot_list_pop ⟨_,e,rfl⟩ F.entry_list_pop (F.args_list_pop_2 _ _)
    (MeetsSeq.list_pop_at l its.toArray n i t k w (fitsIndex_both h1 h2) (by rw [Ab8, <-hl];exact hk) (by rw [<-Ai1];exact hw) (by rw [Ab8];omega)) ⟨e,?_⟩
  refine ⟨y,_,I.lset (its':=its.eraseIdx k) hH e ?_ (r.eraseIdx k) ?_,rw',q⟩
  · show its.toArray.eraseIdxIfInBounds k=(its.eraseIdx k).toArray;rw [List.eraseIdxIfInBounds_toArray]
  · have:=HH xs k;omega
def UG:R2:=λ x y H Q=>∃ l k xs,x= .ref l/\y= .int k/\H l=some (.lst xs)/\ -(2 ^ 63)<=k/\k<2 ^ 63/\xs.length*k.toNat<=sizeLine/\
  ∀ p,H p=none->Q (.ref p) (upd H p (.lst (Ad5 k.toNat xs).flatten))
theorem Pw {α:Type} (xs:List α) (k:Nat):(Ad5 k xs).flatten.length=k*xs.length:=by
  induction k with
  | zero=>simp
  | succ k ih=>rw [List.replicate_succ,Aj7,Ab0,ih,Nat.succ_mul,Nat.add_comm]
theorem SG:OpR X (binaryOp .Mult) UG:=by
  intro pins s σ H x y v u Q I rx ry h;obtain ⟨l,k,xs,rfl,rfl,hH,h1,h2,hz,q⟩:=h;cases rx;obtain ⟨t,rfl⟩:=ry;obtain ⟨z,its,n,r,hl,e⟩:=I.lstM hH;have hlen:its.toArray.size*k.toNat<=sizeLine:=by rw [Ab8, <-hl];exact hz
  have hcap:¬ its.toArray.size*k.toNat>(2 ^ 63 - 1) / 8:=by
    have:(sizeLine:Nat)<=(2 ^ 63 - 1) / 8:=by decide
    omega
  have hfit:¬ (!Builtin.List.listFitsIndex k)=true:=by
    rw [fitsIndex_both h1 h2];exact Ab4
  have hlong:¬ Builtin.List.listTooLong (its.toArray.size*k.toNat)=true:=by
    rw [N1 hlen];exact Ab4
  have hnew:List.foldl (λ x1 x2=>x1++x2) #[] (Ad5 (if its.toArray.isEmpty=true then 0 else k.toNat) its.toArray)=(Ad5 k.toNat its).flatten.toArray:=by
    have f0:∀ m:Nat,List.foldl (λ x1 x2=>x1++x2) #[] (Ad5 m its.toArray)=(Ad5 m its).flatten.toArray:=λ m=>by
      have:=Ia its m [];rw [List.nil_append] at this;exact this
    rw [f0];cases its with
    | nil=>simp
    | cons a r'=>rw [if_neg (by simp)]
  refine wpAny_binaryOp_repeat_ref (T:="list") (U:="int") (by decide) ⟨_,e,rfl⟩ (λ s'=>typeIs_int s' k t) noFill_list_mul F.fills_int_mul F.slot_int_rmul repeat_list F.slot_int_index.lookup
    (call_meets F.slot_int_rmul (typeIs_int s k t) F.entry_int_rmul (F.args_int_rmul_2 _ _) (int___rmul___int_list k t l its.toArray n)
      ⟨e,rfl,⟨_,e,rfl⟩,call_meets F.slot_list_mul ⟨_,e,rfl⟩ F.entry_list_mul (F.args_list_mul_2 _ _) (AutoListH.list___mul___list_int_3 l its.toArray n k t hfit hcap hlong) ⟨e,?_⟩⟩)
  rw [hnew];exact ⟨.ref _,_,I.lnew (t':=s.toks) (r.rep k.toNat) (by rw [Pw,Nat.mul_comm];exact hz),rfl,q _ I.fresh⟩
end
section
variable {prog:Program} {w:World} {A:Around} {E:Value->Shared->Prop} {s:Shared}
end
section
variable {X:Cx}
end
end L2
namespace Att
open PySem PySem.W PySem.Calls PyProof.Rows
theorem FB {P:Params} {h:Heap}:∀ (ns:List Int) (vs:List Value),WellAll P h vs (ns.map WData.int)->IntsAre vs ns:=by
  intro ns
  induction ns with
  | nil=>
    intro vs w;rw [List.map_nil] at w;cases w;exact .nil
  | cons n ns ih=>
    intro vs w;rw [Af0] at w;cases w with
    | cons a b=>
      cases a;exact .cons _ _ (ih _ b)
theorem Mw {l:OpenLaw} {n:Nat} (hn:l.most=some n) {P:Params} {h:Heap} {args:List WData} {vals:List Value}
    (hpre:l.row.toRowW.claim.pre args=true) (hwl:WellAll P h vals args):
    ∃ a vs ns,vals=[Value.ref a]/\args=[WData.list (ns.map WData.int)]/\h.get? a=some { cls:= .type "list",data:= .seq vs.toArray }/\IntsAre vs ns/\ns.length<=n:=by
  have hsh:WShape.hasAll [] args [.list .int]=true:=(pre_splitW hpre).1;have hc:l.pre.holds [] { args:=args }=true:=(pre_splitW hpre).2;obtain ⟨d,r,rfl,h1,h2⟩:=hasAllW_cons hsh;obtain rfl:=hasAllW_nil h2;obtain ⟨xs,rfl,h3⟩:=hasW_list h1;obtain ⟨ns,rfl⟩:=items_int h3;have hlen:ns.length<=n:=by
    unfold OpenLaw.pre at hc;have h4:(WTm.not (.lt (.lit (.int (n:Int))) (.len (.arg 0)))).holds [] { args:=[.list (ns.map .int)] }=true:=by
      have h4:=(holds_andW hc).1;rw [hn] at h4;exact h4
    have h5:=condW_of h4 (w_not (w_lt w_lit (w_len_list (w_arg rfl))));rw [Aa2] at h5;refine Nat.le_of_not_lt λ q=> ?_;have q':(n:Int)<((ns.length:Nat):Int):=by omega
    first
      | (rw [decide_eq_true q'] at h5;exact absurd h5 (by decide))
      | (simp at h5;omega)
  cases hwl with
  | cons w1 w2=>
    cases w2;cases w1 with
    | list ho hall=>exact ⟨_,_,ns,rfl,rfl,ho,FB ns _ hall,hlen⟩
theorem Mq (l:OpenLaw) (args:List WData):l.row.toRowW.claim.post args (.bool true) args=true:=
  postW_of (r:=l.row.toRowW) (X:=(true == true))
    (show WShape.has [] (.bool true) .bool=true by first | rfl | decide | simp [WShape.has,WShape.arms,WShape.armsAll])
    (show (WTm.eq .res (.lit (.bool true))).value [] { args:=args,res:=some (.bool true),after:=args }=some (.bool (true == true)) from w_eq_bool (w_res rfl) w_lit) rfl
theorem attach_call {l:OpenLaw} {n:Nat} {q:Program} {loose:List Str} {XP:(Str->Option Value)->Heap->Prop} {YP:World->Heap->Prop} {d:DefRec}
    (hn:l.most=some n) (hdf:d.params.defaults=[])
    (call:∀ (w:World) (s₀ s₁:Shared) (mg mb:Str->Option Value) (fa:Addr) (o:Obj) (pm cd doc:Value) (a:Addr) (vs:List Value) (ns:List Int),
      Ground q loose [] XP w s₀ mg mb s₁.heap->YP w s₁.heap->
      s₁.heap.get? fa=some o->o.data= .func (docDef d.name d.params d.body d.scope pm cd doc)->s₁.heap.CodeRec cd d.name->mg d.name=some (.ref fa)->
      s₁.heap.get? a=some { cls:= .type "list",data:= .seq vs.toArray }->IntsAre vs ns->ns.length<=n->s₁.gens= #[]->
      codeAny (model l.prog w) callerA (.call (.ref fa) ⟨[.ref a],[]⟩) (λ r s'=>r= .ok (.ret (.bool true))/\OldK s₁.heap s'.heap/\s'.os=s₁.os/\AllBare s'.gens) s₁):
    WalkO q loose XP YP l.row.toRowW d [] (λ f vs=>PySem.call f vs):=by
  intro w s₀ s₁ mg mb G Y fa o pm cd doc dV kV ho hd hcd hD hmg hg args vals as hpre hlay hrd hwl hlo;obtain rfl:dV= .none:=Dflts.none hD hdf;obtain rfl:kV= .none:=Dflts.noKw hD;obtain ⟨a,vs,ns,rfl,rfl,hobj,hints,hlen⟩:=Mw hn hpre hwl;refine enter_call (codeAny_mono (call w s₀ s₁ mg mb fa o pm cd doc a vs ns G Y ho (fd_plain hd) hcd hmg hobj hints hlen hg) λ r s' hq=> ?_);obtain ⟨rfl,h2,h3,h4⟩:=hq;exact ⟨.inl ⟨.bool true, .bool true,[],rfl,λ _=>rfl, .bool true,Mq l _,λ _=>⟨List.Pairwise.nil,λ _ hm=>(nomatch hm)⟩⟩,h2,h3,h4⟩
section
variable {prog:Program} {w:World} {A:Around} {E:Value->Shared->Prop} {s:Shared} {K:Frag}
end
end Att
namespace L2
open PySem PySem.Spec PyProof.Rows
theorem HK:∀ {vs:List Value} {ns:List Int},IntsAre vs ns->Vals (ns.map V.int) vs
  | _,_, .nil=> .nil
  | _,_, .cons n t h=> .cons ⟨t,rfl⟩ (HK h)
def R4 (H:Hp):Prop:=∀ b,H b=none\/∃ o xs,H b=some (.frz o (.lst xs))
theorem NS {P:Program} {w:World} {K:PySem.W.Frag} {mg mb:Str->Option Value} {CX:CXT} {k:Nat} {fa a:Addr} {fd:FuncData} {x:Str} {sp:Sp} {s₁:Shared} {vs:List Value} {ns:List Int}
    (KX:K.In s₁.heap) (hns:s₁.heap.Ns mainGlobals mg) (hb:s₁.heap.Ns builtinsNs mb) (hbb:∀ x:Str,x≠"__name__"->mb x=bootBuiltins x) (hlim:s₁.heap.NoLimit) (hg:s₁.gens= #[])
    (ha:s₁.heap.get? a=some { cls:= .type "list",data:= .seq vs.toArray }) (hi:IntsAre vs ns) (hl:ns.length<=sizeLine) (hr:Room k callerA)
    (F:∀ base:Heap,K.In base->base.Ns mainGlobals mg->FnOk P w K mg base CX k fa fd [x] sp) (hbind:∀ (s:Shared) (u:Value),BindsTo s fd ⟨[u],[]⟩ [(x,u)])
    (hsp:∀ H:Hp,R4 H->SqL K H a (ns.map V.int)->sp [.ref a] H (λ v _=>v= .bl true) λ _ _ _=>False)
    (hCX:∀ H e s',CX [] H s₁ (λ _ _ _=>False) e s'->False):
    codeAny (model P w) callerA (.call (.ref fa) ⟨[.ref a],[]⟩) (λ r s'=>r= .ok (.ret (.bool true))/\OldK s₁.heap s'.heap/\s'.os=s₁.os/\AllBare s'.gens) s₁:=by
  have rv:=HK hi;have lenV:=hi.length;have core:∀ H:Hp,R4 H->SqL K H a (ns.map V.int)->HOk P w H s₁.heap->(∀ b,H b≠none->b=a)->(H a≠none->K.lookup a=none)->
      codeAny (model P w) callerA (.call (.ref fa) ⟨[.ref a],[]⟩) (λ r s'=>r= .ok (.ret (.bool true))/\OldK s₁.heap s'.heap/\s'.os=s₁.os/\AllBare s'.gens) s₁:=by
    intro H hO hS hok hA hK;have base_of:∀ {b:Addr} {o:Obj},s₁.heap.get? b=some o->H b=none->(ID s₁.heap H).get? b=some o:=λ e n=>Np e n;have noA:∀ {b:Addr} {o:Obj} {es:Array DictEntry} {ep:Nat},s₁.heap.get? b=some o->o.data= .dict es ep->H b=none:=λ {b o es ep} e d=>by
      cases q:H b with
      | none=>rfl
      | some u=>
        have e':b=a:=hA b (by rw [q];simp);subst e';rw [ha] at e;cases e;have d':Data.seq vs.toArray _=Data.dict es ep:=d;cases d'
    have nsK:∀ {b:Addr} {m:Str->Option Value},s₁.heap.Ns b m->(ID s₁.heap H).Ns b m:=λ {b m} ⟨o,es,ep,e,d,r⟩=>⟨o,es,ep,base_of e (noA e d),d,r⟩;have hKb:K.In (ID s₁.heap H):=λ b o e=>base_of (KX b o e) (by
      cases q:H b with
      | none=>rfl
      | some u=>
        have e':b=a:=hA b (by rw [q];simp);subst e';rw [hK (by rw [q];simp)] at e;cases e)
    have hM:Mod K mg (ID s₁.heap H):=⟨hKb,nsK hns,⟨mb,nsK hb,hbb⟩,let ⟨mc,h1,h2⟩:=hlim;⟨mc,nsK h1,h2⟩⟩;have e0:Env0 P w K mg (ID s₁.heap H) callerA [] s₁ H:=⟨rfl,hM,λ b o e=>O1 e,Nat.le_of_eq (L7 _ _),trivial,λ b hb=>absurd (show b∈([]:List Addr) from hb) (by simp),hok, .of_eq hg⟩;refine codeAny_mono ((F _ hKb (nsK hns)).run callerA [] s₁ H ⟨[.ref a],[]⟩ [.ref a] [.ref a] _ _ hr e0 (hbind s₁ (.ref a)) (.cons rfl .nil) (hsp H hO hS)) λ r s' h=> ?_;cases r with
    | error e=>exact (hCX H e s' h).elim
    | ok fl=>
      cases fl with
      | next=>exact False.elim h
      | brk=>exact False.elim h
      | cont=>exact False.elim h
      | ret u=>
        obtain ⟨v,H',os,bare,un,hok',r',q⟩:=h;have q':v= .bl true:=q;subst q';obtain rfl:u=Value.bool true:=r';refine ⟨rfl,OldK.of_keep λ b o e=> ?_,os,bare⟩;cases q:H b with
        | none=>exact un.keep b o e q (by intro z;exact absurd (show b∈([]:List Addr) from z) (by simp)) (by simp)
        | some u=>
          rcases hO b with z | ⟨ob,xs,z⟩
          · rw [q] at z;cases z
          · have z2:=un.frzs b ob _ z;obtain ⟨e1,_⟩:=hok b _ z;obtain ⟨e2,_⟩:=hok' b _ z2;rw [e] at e1;cases e1;exact e2
  cases hk:K.lookup a with
  | some o=>
    have e:=KX a o hk;rw [ha] at e;cases e;refine core (λ _=>none) (λ _=> .inl rfl) (.inr ⟨_,vs.toArray,_,hk,rfl,rfl,rfl,by rw [Ab8,lenV];exact hl,by simpa using rv⟩) (λ b u z=>by have z':(none:Option HO)=some u:=z;cases z') (λ b z=>absurd rfl z) λ z=>absurd rfl z
  | none=>
    refine core (λ b=>if b=a then some (.frz { cls:= .type "list",data:= .seq vs.toArray } (.lst (ns.map V.int))) else none) (λ b=> ?_) (.inl (.inr ⟨{ cls:= .type "list",data:= .seq vs.toArray },if_pos rfl⟩)) (λ b u z=> ?_) (λ b z=> ?_) λ _=>hk
    · by_cases hb:b=a
      · exact .inr ⟨_,_,if_pos hb⟩
      · exact .inl (if_neg hb)
    · by_cases hb:b=a
      · have z':=(if_pos hb).symm.trans z;cases z';subst hb;exact ⟨ha,by rw [Aa2];exact hl,vs,_,rv,ha⟩
      · have z':=(if_neg hb).symm.trans z;cases z'
    · by_cases hb:b=a
      · exact hb
      · exact absurd (if_neg hb) z
theorem walk_of {l:PySem.W.OpenLaw} {n k:Nat} {q:Program} {loose:List Str} {XP:(Str->Option Value)->Heap->Prop} {YP:World->Heap->Prop} {d:DefRec} {K:Params->PySem.W.Frag} {CX:World->CXT} {sp:World->Sp} {x:Str}
    (hn:l.most=some n) (hn2:n<=sizeLine) (hdf:d.params.defaults=[]) (hr:Room k callerA)
    (hY:∀ (w:World) (h:Heap),YP w h->(K w.params).In h)
    (F:∀ (w:World) (mg:Str->Option Value) (fa:Addr) (h:Heap),(K w.params).In h->h.Ns mainGlobals mg->mg d.name=some (.ref fa)->
      ∃ fd:FuncData,(∀ (s:Shared) (u:Value),BindsTo s fd ⟨[u],[]⟩ [(x,u)])/\
        ∀ base:Heap,(K w.params).In base->base.Ns mainGlobals mg->FnOk l.prog w (K w.params) mg base (CX w) k fa fd [x] (sp w))
    (hsp:∀ (w:World) (H:Hp) (a:Addr) (ns:List Int),ns.length<=n->R4 H->SqL (K w.params) H a (ns.map V.int)->sp w [.ref a] H (λ v _=>v= .bl true) λ _ _ _=>False)
    (hCX:∀ (w:World) (H:Hp) (s:Shared) (e:Value) (s':Shared),CX w [] H s (λ _ _ _=>False) e s'->False):
    PySem.W.WalkO q loose XP YP l.row.toRowW d [] (λ f vs=>PySem.call f vs):=by
  refine Att.attach_call hn hdf λ w s₀ s₁ mg mb fa o pm cd doc a vs ns G Y ho hd hcd hmg hobj hints hlen hg=> ?_;have KX:=hY w _ Y;obtain ⟨fd,hb,hF⟩:=F w mg fa _ KX G.T.g hmg;exact NS KX G.T.g G.T.b G.T.builtins G.T.nolimit hg hobj hints (Ae0 hlen hn2) hr hF hb (λ H hO hS=>hsp w H a ns hlen hO hS) λ H e s'=>hCX w H s₁ e s'
abbrev CX0:CXT:=λ _ _ _ _ _ _=>False
abbrev E0:XK:=λ _ _ _=>False
theorem LB {X:Cx}:Ep CX0 X E0:=λ _ _ _ _ _ _ _ h=>h.elim
structure Fun (K:PySem.W.Frag) (x qual:Str) (st:Stmt) (f:Addr) (fd:FuncData):Prop where
  ex:∃ (oc:Value) (od:Option Addr) (kV doc pm:Value) (an:Option Addr) (cdv ct:Value) (osl:Array (Option Value)),
    fd=PySem.W.fnOf x qual (DE st) (CQ st) (Ai st) .none kV doc pm an cdv ct/\K.lookup f=some ⟨oc,od, .func fd,osl⟩/\PySem.W.codeIn K cdv qual=true
  kp:PySem.W.keepIn K (.ref f)=true
section
variable {P:Program} {w:World} {K:PySem.W.Frag} {mg:Str->Option Value} {base:Heap}
theorem Fun.ok {x qual:Str} {st:Stmt} {f:Addr} {fd:FuncData} {N ps:List Str} {k:Nat} {sp:Sp} (F:Fun K x qual st f fd) (S:FnScope N ps (Ai st)) (len:∀ vs H Q E,sp vs H Q E->vs.length=ps.length)
    (hbody:∀ (cdv:Value) (A:Around) (outer:List Env) (s:Shared) (H:Hp) (vs:List V) (Q:VK) (E:XK),Room k (A.deeper (envOfC qual (Ai st) s.heap.objs.size f cdv))->sp vs H Q E->
      ∃ t,PSs (Mn CX0 P w K mg base N qual (Ai st) f cdv A outer s H E).nox (CQ st) t/\t { nx:=λ _ H'=>Q .non H',rt:=Q } (start N vs) H):FnOk P w K mg base CX0 (k+1) f fd ps sp:=by
  obtain ⟨oc,od,kV,doc,pm,an,cdv,ct,osl,rfl,lk,hcd⟩:=F.ex;refine Um lk hcd S len λ A outer s H vs Q E hr hsp=> ?_;obtain ⟨t,h,q⟩:=hbody cdv A outer s H vs Q E hr hsp;exact ⟨t,h.nox,q⟩
theorem fun_mk {x qual:Str} {st:Stmt} {f:Addr} {oc:Value} {od an:Option Addr} {osl:Array (Option Value)} {kV doc pm cdv ct:Value} (l:K.lookup f=some ⟨oc,od, .func (PySem.W.fnOf x qual (DE st) (CQ st) (Ai st) .none kV doc pm an cdv ct),osl⟩)
    (c:PySem.W.codeIn K cdv qual=true) (k:PySem.W.keepIn K (.ref f)=true):Fun K x qual st f (PySem.W.fnOf x qual (DE st) (CQ st) (Ai st) .none kV doc pm an cdv ct):=⟨⟨oc,od,kV,doc,pm,an,cdv,ct,osl,rfl,l,c⟩,k⟩
end
section
variable {X:Cx}
theorem pv (i:Nat) {x:Str} {pos:Pos} (hN:X.N[i]?=some x:=by rfl) (hv:Vis X.env.scope x:=by first | exact Or.inl rfl | exact Or.inr (Or.inl rfl) | exact Or.inr (Or.inr rfl)) (hd:(x == ("__debug__":Str))=false:=by decide)
    (hcd:(x == ("__classdict__":Str))=false:=by decide):PE X (.Name x pos) (SL i):=R6 hN hv hd hcd
end
theorem Gg {A B:Prop} (h:B):if false=true then A else B:=by
  rw [if_neg Ab4];exact h
theorem Gy {A B:Prop} (h:A):if true=true then A else B:=by
  rw [if_pos rfl];exact h
def Same (H H':Hp):Prop:=∀ b o,H b=some o->H' b=some o
theorem Same.refl (H:Hp):Same H H:=λ _ _ h=>h
theorem Same.trans {H H1 H2:Hp} (a:Same H H1) (b:Same H1 H2):Same H H2:=λ c o h=>b c o (a c o h)
theorem Same.free {H H':Hp} (e:Same H H') {l:Addr} (h:H' l=Option.none):H l=Option.none:=by
  cases q:H l with
  | none=>rfl
  | some o=>
    rw [e l o q] at h;cases h
theorem Same.seq {K:PySem.W.Frag} {H H':Hp} {a:Addr} {xs:List V} (e:Same H H') (h:SqL K H a xs):SqL K H' a xs:=by
  rcases h with (h | ⟨o,h⟩) | h
  · exact .inl (.inl (e _ _ h))
  · exact .inl (.inr ⟨o,e _ _ h⟩)
  · exact .inr h
section
variable {κ:Type} [DecidableEq κ]
def A6 (kvs:List (κ × V)) (k:κ):Option V:=(kvs.find? λ kv=>decide (kv.1=k)).map (·.2)
def C9 (kvs:List (κ × V)) (k:κ) (v:V):List (κ × V):=
  if (kvs.any λ kv=>decide (kv.1=k))=true then kvs.map (λ kv=>if kv.1=k then (kv.1,v) else kv) else kvs++[(k,v)]
theorem AW {p:κ × V} {r:List (κ × V)} {k:κ} (e:p.1=k):A6 (p::r) k=some p.2:=by simp [A6,Aj8,e]
theorem AU {p:κ × V} {r:List (κ × V)} {k:κ} (e:¬ p.1=k):A6 (p::r) k=A6 r k:=by simp [A6,Aj8,e]
theorem Di (k:κ):∀ kvs:List (κ × V),(kvs.any λ kv=>decide (kv.1=k))=(A6 kvs k).isSome
  | []=>rfl
  | p::r=>by
    rw [List.any_cons];by_cases e:p.1=k
    · simp only [AW e,decide_eq_true e,Bool.true_or,Option.isSome_some]
    · rw [AU e,decide_eq_false e,Bool.false_or];exact Di k r
theorem JC (k j:κ) (y:V):∀ kvs:List (κ × V),A6 (kvs.map λ kv=>if kv.1=k then (kv.1,y) else kv) j=(A6 kvs j).map λ x=>if j=k then y else x
  | []=>rfl
  | p::r=>by
    have ih:=JC k j y r;rw [Af0];by_cases h:p.1=k
    · rw [if_pos h];by_cases e:p.1=j
      · rw [AW (p:=(p.1,y)) e,AW e,Ae9,if_pos (e.symm.trans h)]
      · rw [AU (p:=(p.1,y)) e,AU e,ih]
    · rw [if_neg h];by_cases e:p.1=j
      · rw [AW (p:=p) e,AW e,Ae9,if_neg (λ z=>h (e.trans z))]
      · rw [AU (p:=p) e,AU e,ih]
theorem HS (k j:κ) (y:V):∀ kvs:List (κ × V),A6 kvs k=none->A6 (kvs++[(k,y)]) j=if j=k then some y else A6 kvs j
  | [],_=>by
    by_cases e:k=j
    · rw [if_pos e.symm];exact AW (p:=(k,y)) e
    · rw [if_neg (λ z=>e z.symm)];exact AU (p:=(k,y)) e
  | p::r,hn=>by
    rw [List.cons_append];have hk:¬ p.1=k:=λ z=>by rw [AW z] at hn;cases hn
    rw [AU hk] at hn;have ih:=HS k j y r hn;by_cases e:p.1=j
    · rw [AW e,AW e,if_neg (λ z=>hk (e.trans z))]
    · rw [AU e,AU e,ih]
theorem GE (kvs:List (κ × V)) (k j:κ) (y:V):A6 (C9 kvs k y) j=if j=k then some y else A6 kvs j:=by
  unfold C9;by_cases a:(kvs.any λ kv=>decide (kv.1=k))=true
  · rw [if_pos a,JC];rw [Di] at a;by_cases e:j=k
    · obtain ⟨x,hx⟩:=Option.isSome_iff_exists.mp a;rw [if_pos e,e,hx,Ae9,if_pos rfl]
    · rw [if_neg e];cases A6 kvs j with
      | none=>rfl
      | some x=>rw [Ae9,if_neg e]
  · rw [if_neg a];refine HS k j y kvs ?_;rw [Di] at a;cases q:A6 kvs k with
    | none=>rfl
    | some x=>rw [q] at a;exact (a rfl).elim
theorem Ca (kvs:List (κ × V)) (k:κ) (v:V):(C9 kvs k v).length<=kvs.length+1:=by
  unfold C9;split
  · rw [Aa2];omega
  · rw [Ab0,Ad8,List.length_nil];omega
theorem JM {kvs:List (κ × V)} {k:κ} (v:V) (h:A6 kvs k=none):C9 kvs k v=kvs++[(k,v)]:=by
  unfold C9;rw [Di,h];exact if_neg (by decide)
theorem RelO.isSome_eq {o:Option V} {u:Option Value} (r:RelO o u):o.isSome=u.isSome:=by
  cases o with
  | none=>cases u with
    | none=>rfl
    | some _=>exact (show False from r).elim
  | some _=>cases u with
    | none=>exact (show False from r).elim
    | some _=>rfl
theorem KV.val {kvs:List (κ × V)} {vs:List (κ × Value)} (r:KV kvs vs) (k:κ):RelO (A6 kvs k) (valueAt vs k):=by
  unfold KV at r
  induction r with
  | nil=>exact True.intro
  | @cons p q ps qs h t ih=>
    obtain ⟨h1,h2⟩:=h;by_cases e:p.1=k
    · have e':q.1=k:=h1.symm.trans e;have b:valueAt (q::qs) k=some q.2:=by simp [valueAt,Aj8,e']
      rw [AW e,b];exact h2
    · have e':¬ q.1=k:=λ z=>e (h1.trans z);have b:valueAt (q::qs) k=valueAt qs k:=by simp [valueAt,Aj8,e']
      rw [AU e,b];exact ih
theorem KV.any {kvs:List (κ × V)} {vs:List (κ × Value)} (r:KV kvs vs) (k:κ):(kvs.any λ kv=>decide (kv.1=k))=vs.any λ kv=>decide (kv.1=k):=by
  unfold KV at r
  induction r with
  | nil=>rfl
  | cons h t ih=>rw [List.any_cons,List.any_cons,ih,h.1]
theorem KV.repl {kvs:List (κ × V)} {vs:List (κ × Value)} (r:KV kvs vs) (k:κ) {y:V} {u:Value} (ry:RelV y u):
    KV (kvs.map λ kv=>if kv.1=k then (kv.1,y) else kv) (vs.map λ kv=>if kv.1=k then (kv.1,u) else kv):=by
  unfold KV at r ⊢
  induction r with
  | nil=>exact .nil
  | @cons p q ps qs h t ih=>
    rw [Af0,Af0];refine .cons ?_ ih;obtain ⟨h1,h2⟩:=h;by_cases e:p.1=k
    · rw [if_pos e,if_pos (h1.symm.trans e)];exact ⟨h1,ry⟩
    · rw [if_neg e,if_neg (λ z=>e (h1.trans z))];exact ⟨h1,h2⟩
theorem KV.put {kvs:List (κ × V)} {vs:List (κ × Value)} (r:KV kvs vs) (k:κ) {y:V} {u:Value} (ry:RelV y u):KV (C9 kvs k y) (stored vs k u):=by
  unfold C9 stored;rw [r.any k];by_cases e:(vs.any λ kv=>decide (kv.1=k))=true
  · rw [if_pos e,if_pos e];exact r.repl k ry
  · rw [if_neg e,if_neg e];exact Paired.snoc r ⟨rfl,ry⟩
theorem KV.length {kvs:List (κ × V)} {vs:List (κ × Value)} (r:KV kvs vs):kvs.length=vs.length:=Paired.length r
end
theorem JT {P:Program} {w:World} {k:Key} {u:Value} (r:RelV (kV k) u):(AF P w).is k u=true:=by
  cases k with
  | inl i=>obtain ⟨t,e⟩:=(show ∃ t,u=Value.int i t from r);subst e;exact JB P w i t
  | inr x=>obtain ⟨t,e⟩:=(show ∃ t,u=Value.str x t from r);subst e;exact Jy P w x t
theorem HQ {P:Program} {w:World}:∀ {ks:List Key} {us:List Value},Vals (ks.map kV) us->ItemsAre (AF P w) ks us
  | [],_,r=>by rw [List.map_nil] at r;cases r;exact .nil
  | k::ks,_,r=>by
    rw [Af0] at r;cases r with
    | cons h t=>exact .cons (JT h) (HQ t)
abbrev KT (H:Hp):List (List Key × V)->List (List Key × Addr × Value)->Prop:=Paired λ p q=>p.1=q.1/\H q.2.1=some (.tup (p.1.map kV))/\RelV p.2 q.2.2
theorem KT.val {H:Hp} {kvs:List (List Key × V)} {xs:List (List Key × Addr × Value)} (r:KT H kvs xs) (k:List Key):RelO (A6 kvs k) ((atKey xs k).map (·.2)):=by
  induction r with
  | nil=>exact True.intro
  | @cons p q ps qs h t ih=>
    obtain ⟨h1,_,h2⟩:=h;by_cases e:p.1=k
    · have e':q.1=k:=h1.symm.trans e;have b:atKey (q::qs) k=some q.2:=by simp [atKey,Aj8,e']
      rw [AW e,b];exact h2
    · have e':¬ q.1=k:=λ z=>e (h1.trans z);have b:atKey (q::qs) k=atKey qs k:=by simp [atKey,Aj8,e']
      rw [AU e,b];exact ih
theorem KT.repl {H:Hp} {kvs:List (List Key × V)} {xs:List (List Key × Addr × Value)} (r:KT H kvs xs) (k:List Key) {y:V} {u:Value} (ry:RelV y u):
    KT H (kvs.map λ kv=>if kv.1=k then (kv.1,y) else kv) (xs.map (putAt k u)):=by
  induction r with
  | nil=>exact .nil
  | @cons p q ps qs h t ih=>
    rw [Af0,Af0];refine .cons ?_ ih;obtain ⟨h1,h2,h3⟩:=h;unfold putAt;by_cases e:p.1=k
    · rw [if_pos e,if_pos (h1.symm.trans e)];exact ⟨h1,h2,ry⟩
    · rw [if_neg e,if_neg (λ z=>e (h1.trans z))];exact ⟨h1,h2,h3⟩
theorem KT.put {H:Hp} {kvs:List (List Key × V)} {xs:List (List Key × Addr × Value)} (r:KT H kvs xs) (k:List Key) {b:Addr} {y:V} {u:Value} (hb:H b=some (.tup (k.map kV))) (ry:RelV y u):
    KT H (C9 kvs k y) (storedH xs k b u):=by
  have e:(kvs.any λ kv=>decide (kv.1=k))=(atKey xs k).isSome:=by
    rw [Di,(r.val k).isSome_eq,Option.isSome_map]
  unfold C9 storedH;rw [e];by_cases q:(atKey xs k).isSome=true
  · rw [if_pos q,if_pos q];exact r.repl k ry
  · rw [if_neg q,if_neg q];exact Paired.snoc r ⟨rfl,hb,ry⟩
theorem KT.keeps {H H':Hp} {kvs:List (List Key × V)} {xs:List (List Key × Addr × Value)} (r:KT H kvs xs) (ht:∀ b ys,H b=some (.tup ys)->H' b=some (.tup ys)):KT H' kvs xs:=
  Paired.mapP r λ _ _ z=>⟨z.1,ht _ _ z.2.1,z.2.2⟩
section
variable {P:Program} {w:World} {H:Hp} {h:Heap} {a:Addr}
theorem QY {u:HO} (ok:HOk P w H h) (e:Rd H a u):ObjOk P w H h a u:=e.ok ok
theorem Ju {kvs:List (Key × V)} (ok:HOk P w H h) (e:Rd H a (.dK kvs)):kvs.length<=sizeLine/\(a == sysModules)=false/\∃ vs,KV kvs vs/\h.DictOf (AF P w) a vs:=
  show ObjOk P w H h a (.dK kvs) from QY ok e
theorem TF {kvs:List (Key × V)} (ok:HOk P w H h) (e:H a=some (.dK kvs)):kvs.length<=sizeLine/\(a == sysModules)=false/\∃ vs,KV kvs vs/\h.DictOf (AF P w) a vs:=Ju ok (.inl e)
theorem Ef {ks:List Key} (ok:HOk P w H h) (e:H a=some (.tup (ks.map kV))):(tupleKind (AF P w)).is h ks a:=by
  obtain ⟨_,its,r,o,h1,h2,n,h3⟩:=(show ObjOk P w H h a (.tup (ks.map kV)) from ok a _ e);exact ⟨o,its.toArray,n,h1,h2,h3,by simpa using HQ r⟩
theorem JN {kvs:List (List Key × V)} (ok:HOk P w H h) (e:Rd H a (.dT kvs)):kvs.length<=sizeLine/\(a == sysModules)=false/\
    ∃ xs,KT H kvs xs/\h.DictOfH (tupleKind (AF P w)) a xs:=by
  obtain ⟨z,y,xs,r,o,es,ep,h1,h2,h3,h4,h5⟩:=(show ObjOk P w H h a (.dT kvs) from QY ok e);refine ⟨z,y,xs,r,o,es,ep,h1,h2,h3,h4,λ x hx=> ?_,h5⟩;have all:∀ {l:List (List Key × V)} {m:List (List Key × Addr × Value)},KT H l m->∀ x∈m,(tupleKind (AF P w)).is h x.1 x.2.1:=by
    intro l m q
    induction q with
    | nil=>intro x hx;exact nomatch hx
    | @cons p q ps qs hq t ih=>
      intro x hx;rcases Ac2.mp hx with e | hx
      · subst e;exact Ef ok (by rw [<-hq.1];exact hq.2.1)
      · exact ih x hx
  exact all r x hx
theorem LM {kvs:List (List Key × V)} (ok:HOk P w H h) (e:H a=some (.dT kvs)):kvs.length<=sizeLine/\(a == sysModules)=false/\
    ∃ xs,KT H kvs xs/\h.DictOfH (tupleKind (AF P w)) a xs:=JN ok (.inl e)
end
def DGet (H:Hp) (a:Addr) (y:V) (r:Option V):Prop:=
  (∃ kvs k,Rd H a (.dK kvs)/\y=kV k/\r=A6 kvs k)\/∃ kvs k b,Rd H a (.dT kvs)/\y= .ref b/\H b=some (.tup (k.map kV))/\r=A6 kvs k
def DPut (H:Hp) (a:Addr) (y v:V) (H':Hp):Prop:=
  (∃ kvs k,H a=some (.dK kvs)/\y=kV k/\kvs.length<sizeLine/\H'=upd H a (.dK (C9 kvs k v)))\/
  ∃ kvs k b,H a=some (.dT kvs)/\y= .ref b/\H b=some (.tup (k.map kV))/\kvs.length<sizeLine/\H'=upd H a (.dT (C9 kvs k v))
theorem DGet.t {H:Hp} {a b:Addr} {kvs:List (List Key × V)} {k:List Key} (e:H a=some (.dT kvs)) (eb:H b=some (.tup (k.map kV))):DGet H a (.ref b) (A6 kvs k):= .inr ⟨kvs,k,b, .inl e,rfl,eb,rfl⟩
theorem DPut.t {H:Hp} {a b:Addr} {kvs:List (List Key × V)} {k:List Key} {v:V} (e:H a=some (.dT kvs)) (eb:H b=some (.tup (k.map kV))) (hl:kvs.length<sizeLine):
    DPut H a (.ref b) v (upd H a (.dT (C9 kvs k v))):= .inr ⟨kvs,k,b,e,rfl,eb,hl,rfl⟩
section
variable {X:Cx} {pins:List (Addr × Obj)} {σ:St} {H:Hp} {s:Shared} {a:Addr} {y v:V} {u r:Value} {o:Option V} {A:Around} {E:Value->Shared->Prop}
theorem Inv.big (I:Inv X pins σ H s):sysModules<s.heap.objs.size:=by
  have h:mainGlobals<s.heap.objs.size:=(I.mod.glob.keeps I.bk).lt;exact Ae6 (by decide) h
theorem MS {Q:Value->Shared->Prop} (hu:A.units+1<cLine) (I:Inv X pins σ H s) (g:DGet H a y (some v)) (ry:RelV y u) (h:∀ w' s',Inv X pins σ H s'->RelV v w'->Q w' s'):
    wpAny (model X.prog X.w) A (getItem (.ref a) u) Q E s:=by
  rcases g with ⟨kvs,k,e,ey,l⟩ | ⟨kvs,k,b,e,ey,eb,l⟩
  · subst ey;obtain ⟨z,hd,vs,rel,dd⟩:=Ju I.hok e;obtain ⟨w',hw,rw'⟩:=RelO.some_of (v:=v) (o:=valueAt vs k) (by rw [l];exact rel.val k);exact wpAny_getItem_of (JT ry) dd.mapOf hw (h w' _ (I.tok _) rw')
  · subst ey;cases (show u=Value.ref b from ry);obtain ⟨z,hd,xs,rel,dd⟩:=JN I.hok e;obtain ⟨w',hw,rw'⟩:=RelO.some_of (v:=v) (o:=(atKey xs k).map (·.2)) (by rw [l];exact rel.val k);obtain ⟨p,hp,hp2⟩:=Ah1.mp hw;refine wpAny_getItem_heap (tupleKind_room_in1 hu) (Ef I.hok eb) dd hp ?_;rw [hp2];exact h w' _ (I.tok _) rw'
theorem Xe {Q:Value->Shared->Prop} (hu:A.units+1<cLine) (I:Inv X pins σ H s) (g:DGet H a y o) (ry:RelV y u) (h:∀ s',Inv X pins σ H s'->Q (.bool o.isSome) s'):
    wpAny (model X.prog X.w) A (compareOp .In u (.ref a)) Q E s:=by
  rcases g with ⟨kvs,k,e,ey,l⟩ | ⟨kvs,k,b,e,ey,eb,l⟩
  · subst ey;obtain ⟨z,hd,vs,rel,dd⟩:=Ju I.hok e;refine wpAny_in_of (JT ry) hd dd.mapOf ?_;rw [<-(rel.val k).isSome_eq, <-l];exact h _ (I.tok _)
  · subst ey;cases (show u=Value.ref b from ry);obtain ⟨z,hd,xs,rel,dd⟩:=JN I.hok e;refine wpAny_in_heap (tupleKind_room_in1 hu) (Ef I.hok eb) hd dd ?_;have q:=(rel.val k).isSome_eq;rw [Option.isSome_map] at q;rw [<-q, <-l];exact h _ (I.tok _)
theorem P1 {Q:Value->Shared->Prop} (hu:A.units+1<cLine) (I:Inv X pins σ H s) (g:DGet H a y o) (ry:RelV y u) (h:∀ s',Inv X pins σ H s'->Q (.bool (!o.isSome)) s'):
    wpAny (model X.prog X.w) A (compareOp .NotIn u (.ref a)) Q E s:=by
  rcases g with ⟨kvs,k,e,ey,l⟩ | ⟨kvs,k,b,e,ey,eb,l⟩
  · subst ey;obtain ⟨z,hd,vs,rel,dd⟩:=Ju I.hok e;refine wpAny_notIn_of (JT ry) hd dd.mapOf ?_;rw [<-(rel.val k).isSome_eq, <-l];exact h _ (I.tok _)
  · subst ey;cases (show u=Value.ref b from ry);obtain ⟨z,hd,xs,rel,dd⟩:=JN I.hok e;refine wpAny_notIn_heap (tupleKind_room_in1 hu) (Ef I.hok eb) hd dd ?_;have q:=(rel.val k).isSome_eq;rw [Option.isSome_map] at q;rw [<-q, <-l];exact h _ (I.tok _)
theorem FU {h':Heap} {t':Nat} {ob:HO} (I:Inv X pins σ H s) (mu:Mut (H a)) (hs:Heap.SameBut a s.heap h') (he:∃ q,h'.get? a=some q) (new:ObjOk X.prog X.w (upd H a ob) h' a ob):
    Inv X pins σ (upd H a ob) { s with heap:=h',toks:=t' }:=
  I.write (x:=a) (e:=a) mu (.inl rfl) (λ b q hb z=>(hs.2 b hb).trans z) he new
theorem RL {P:Program} {w:World} {H':Hp} {h':Heap} {kvs:List (Key × V)} {vs:List (Key × Value)} (z:kvs.length<=sizeLine) (hd:(a == sysModules)=false) (rel:KV kvs vs) (dd:h'.DictOf (AF P w) a vs):
    ObjOk P w H' h' a (.dK kvs):=⟨z,hd,vs,rel,dd⟩
theorem Mx {H':Hp} {Q:Unit->Shared->Prop} (hu:A.units+1<cLine) (I:Inv X pins σ H s) (g:DPut H a y v H') (ry:RelV y u) (rv:RelV v r) (h:∀ s',Inv X pins σ H' s'->Q () s'):
    wpAny (model X.prog X.w) A (setItem (.ref a) u r) Q E s:=by
  rcases g with ⟨kvs,k,e,ey,l,eH⟩ | ⟨kvs,k,b,e,ey,eb,l,eH⟩
  · subst ey eH;obtain ⟨z,hd,vs,rel,dd⟩:=TF I.hok e;have hz:vs.length<=sizeLine:=by rw [<-rel.length];exact z
    have hl:(C9 kvs k v).length<=sizeLine:=by have:=Ca kvs k v;omega
    refine wpAny_setItem_pairs (hsz:=hz) (JT ry) dd λ h' dd' hs=>h _ ?_;have he:∃ q,h'.get? a=some q:=let ⟨q,_,_,hq,_⟩:=dd';⟨q,hq⟩;exact FU I (by rw [e];exact True.intro) hs he (RL hl hd (rel.put k rv) dd')
  · subst ey eH;cases (show u=Value.ref b from ry);obtain ⟨z,hd,xs,rel,dd⟩:=LM I.hok e;have hz:xs.length<=sizeLine:=by rw [<-Paired.length rel];exact z
    have hl:(C9 kvs k v).length<=sizeLine:=by have:=Ca kvs k v;omega
    refine wpAny_setItem_heap (hsz:=hz) (tupleKind_room_in1 hu) (Ef I.hok eb) dd λ h' dd' hs=>h _ ?_;obtain ⟨q,es,ep,hq,h2,h3,h4,_,h5⟩:=dd';refine FU I (by rw [e];exact True.intro) hs ⟨q,hq⟩ ⟨hl,hd,_,(rel.put k eb rv).keeps λ c ys ec=> ?_,q,es,ep,hq,h2,h3,h4,h5⟩;rw [Ak (A3 ec e (λ z=>nomatch z))];exact ec
end
section
variable {X:Cx} {pins:List (Addr × Obj)} {σ:St} {H:Hp} {s:Shared} {a:Addr} {kvs:List (Key × V)} {k:Key} {u:Value} {A:Around} {E:Value->Shared->Prop}
end
def UU (i:Expr):Prop:=∀ ov iv,subscripted i false ov iv=operate [ov,iv] (getItem ov iv)
theorem P3 {prog:Program} {w:World} {A:Around} {E:Value->Shared->Prop} {s:Shared} {env:Env} {value slice:Expr} {pos:Pos} {T id:String} {Q:Value->Shared->Prop}
    (hl:typeLookup (.type T) "__getitem__"=pure (some (.builtin id))) (hs:UU slice)
    (h:wpAny (model prog w) A (eval value env) (λ o s₁=>wpAny (model prog w) A (eval slice env) (λ i s₂=>s₂.TypeIs o T/\wpAny (model prog w) A (getItem o i) Q E s₂) E s₁) E s):
    wpAny (model prog w) A (eval (.Subscript value slice pos) env) Q E s:=by
  refine Subscript_ (Ag6 h (λ o s₁ h₁=>Ag6 h₁ (λ i s₂ h₂=> ?_) λ _ _ x=>x) λ _ _ x=>x);obtain ⟨hT,h₂⟩:=h₂;unfold subscriptTail;refine Aa3 ?_;rw [getitemInPython_of_ne hT.not_modules];refine Aa3 (wpAny_specialOf hT hl ?_);have fin:wpAny (model prog w) A (subscripted slice false o i) (λ r s₃=>wpAny (model prog w) A (letTemporaryGo value o r >>= λ _=>pure r) Q E s₃) E s₂:=by
    rw [hs o i];exact wpAny_operating (Ag6 h₂ (λ r s₃ h₃=>Aa3 (wpAny_letTemporaryGo (Aa7 h₃))) λ _ _ x=>x)
  first
    | exact Aa7 (Aa3 fin)
    | exact Aa3 (Aa7 (Aa3 fin))
    | exact Aa3 fin
theorem IQ {X:Cx} {pins:List (Addr × Obj)} {σ:St} {H:Hp} {s:Shared} {a:Addr} {y:V} {o:Option V} (I:Inv X pins σ H s) (g:DGet H a y o):s.TypeIs (.ref a) "dict":=by
  rcases g with ⟨kvs,k,e,_,_⟩ | ⟨kvs,k,b,e,_,_,_⟩
  · obtain ⟨_,_,vs,_,dd⟩:=Ju I.hok e;exact dd.typeIs
  · obtain ⟨_,_,xs,_,dd⟩:=JN I.hok e;exact dd.typeIs
def QZ (td ty:TE):TE:=λ σ H Q=>td σ H λ x H1=>ty σ H1 λ y H2=>∃ a v,x= .ref a/\DGet H2 a y (some v)/\Q v H2
def TX (ty td:TE):TE:=λ σ H Q=>ty σ H λ y H1=>td σ H1 λ x H2=>∃ a o,x= .ref a/\DGet H2 a y o/\Q (.bl o.isSome) H2
def LL (ty td:TE):TE:=λ σ H Q=>ty σ H λ y H1=>td σ H1 λ x H2=>∃ a o,x= .ref a/\DGet H2 a y o/\Q (.bl (!o.isSome)) H2
def Qv (td ty tv:TE):TS:=λ D σ H=>tv σ H λ v H1=>td σ H1 λ x H2=>ty σ H2 λ y H3=>∃ a H4,x= .ref a/\DPut H3 a y v H4/\D.nx σ H4
section
variable {X:Cx} {o i e value:Expr} {pos pos' tpos:Pos} {td ty tv:TE}
theorem IN (hu:X.A.units+1<cLine) (ho:PE X o td) (hi:PE X i ty) (hs:UU i):PE X (.Subscript o i pos) (QZ td ty):=by
  intro pins s σ H Q I h;refine P3 PySem.F.slot_dict_getitem.lookup hs (thn (ho pins s σ H _ I h) λ u s1 ⟨x,H1,I1,rx,q1⟩=>thn (hi pins s1 σ H1 _ I1 q1) λ iv s2 ⟨y,H2,I2,ry,a,v,ex,g,q2⟩=> ?_);subst ex;obtain rfl:u=Value.ref a:=rx;exact ⟨IQ I2 g,MS hu I2 g ry λ w' s3 I3 rw'=>⟨v,H2,I3,rw',q2⟩⟩
theorem SV (hu:X.A.units+1<cLine) (hi:PE X i ty) (ho:PE X o td):PC X .In i o (TX ty td):=by
  intro pins s σ H Q I h;refine thn (hi pins s σ H _ I h) λ iv s1 ⟨y,H1,I1,ry,q1⟩=>thn (ho pins s1 σ H1 _ I1 q1) λ u s2 ⟨x,H2,I2,rx,a,ov,ex,g,q2⟩=> ?_;subst ex;obtain rfl:u=Value.ref a:=rx;exact Xe hu I2 g ry λ s3 I3=>⟨.bl ov.isSome,H2,I3,rfl,q2⟩
theorem MP (hu:X.A.units+1<cLine) (hi:PE X i ty) (ho:PE X o td):PC X .NotIn i o (LL ty td):=by
  intro pins s σ H Q I h;refine thn (hi pins s σ H _ I h) λ iv s1 ⟨y,H1,I1,ry,q1⟩=>thn (ho pins s1 σ H1 _ I1 q1) λ u s2 ⟨x,H2,I2,rx,a,ov,ex,g,q2⟩=> ?_;subst ex;obtain rfl:u=Value.ref a:=rx;exact P1 hu I2 g ry λ s3 I3=>⟨.bl (!ov.isSome),H2,I3,rfl,q2⟩
theorem EK (hu:X.A.units+1<cLine) (ho:PE X o td) (hi:PE X i ty) (hv:PE X value tv) (hs:swapsWith value (some (.Subscript o i pos')) pos.line X.env=pure false):
    PS X (.Assign [.Subscript o i pos'] value pos) (Qv td ty tv):=by
  intro pins s σ H D I h;refine wpAny_Assign_Subscript (thn (hv pins s σ H _ I h) λ r s1 ⟨v,H1,I1,rv,q1⟩=>thn (ho pins s1 σ H1 _ I1 q1) λ u s2 ⟨x,H2,I2,rx,q2⟩=>thn (hi pins s2 σ H2 _ I2 q2) λ iv s3 ⟨y,H3,I3,ry,a,H4,ex,g,q3⟩=> ?_) hs;subst ex;obtain rfl:u=Value.ref a:=rx;exact Mx hu I3 g ry rv λ s4 I4=>⟨σ,H4,I4,q3⟩
end
theorem Jj {P:Program} {w:World} {H:Hp} (h:Heap) (hb:sysModules<h.objs.size):ObjOk P w H (h.push { cls:= .type "dict",data:= .dict #[] }) h.objs.size (.dT []):=
  ⟨Ad3 _,beq_eq_false_iff_ne.mpr (Ne.symm (Ac9 hb)),[], .nil,_, #[],0,Ab3 _ rfl,⟨rfl,rfl,rfl⟩,rfl,rfl,List.nodup_nil⟩
def Sg:TE:=λ _ H Q=>∀ p,H p=none->Q (.ref p) (upd H p (.dT []))
section
variable {X:Cx} {pos:Pos}
theorem GL:PE X (.Dict [] [] pos) Sg:=λ pins s σ H Q I h=>
  wpAny_Dict_empty ⟨.ref s.heap.objs.size,_,I.laid (a:=s.heap.objs.size) (o:= .dT []) (t':=s.toks) (λ _ _ q=>Aa4 _ q) (Aa6 _) (Jj s.heap I.big),rfl,h _ (I.hok.fresh (Aa6 _))⟩
end
def DV:List (TE × TE)->St->Hp->(List (V × V)->Hp->Prop)->Prop
  | [],_,H,Q=>Q [] H
  | (tk,tv)::r,σ,H,Q=>tk σ H λ x H1=>tv σ H1 λ y H2=>DV r σ H2 λ ps H3=>Q ((x,y)::ps) H3
abbrev VV:List (V × V)->List (Value × Value)->Prop:=Paired λ p q=>RelV p.1 q.1/\RelV p.2 q.2
def PPs (X:Cx) (pos:Pos) (keys:List (Option Expr)) (values:List Expr) (trs:List (TE × TE)):Prop:=
  ∀ (pins:List (Addr × Obj)) (s:Shared) (σ:St) (H:Hp) (Q:List (V × V)->Hp->Prop),Inv X pins σ H s->DV trs σ H Q->
    wpAny (model X.prog X.w) X.A (evalPairs (pairTrees keys values X.env pos)) (λ vs s'=>∃ ps H',Inv X pins σ H' s'/\VV ps vs/\Q ps H') X.xe s
theorem PL {X:Cx} {pos:Pos}:PPs X pos [] [] []:=λ pins s σ H Q I h=>pairTrees_nil_walk ⟨[],H,I, .nil,h⟩
theorem MZ {X:Cx} {pos:Pos} {k v:Expr} {ks:List (Option Expr)} {vs:List Expr} {tk tv:TE} {trs:List (TE × TE)} (hk:PE X k tk) (hv:PE X v tv) (hr:PPs X pos ks vs trs):
    PPs X pos (some k::ks) (v::vs) ((tk,tv)::trs):=λ pins s σ H Q I h=>
  pairTrees_cons_walk (thn (hk pins s σ H _ I h) λ u s1 ⟨x,H1,I1,rx,q1⟩=>thn (hv pins s1 σ H1 _ I1 q1) λ w2 s2 ⟨y,H2,I2,ry,q2⟩=>
    thn (hr pins s2 σ H2 _ I2 q2) λ ws s3 ⟨ps,H3,I3,rel,q3⟩=>⟨(x,y)::ps,H3,I3, .cons ⟨rx,ry⟩ rel,q3⟩)
structure M1 (X:Cx) (o:Expr) (m:Str) (apos:Pos) (e:Expr) (cpos:Pos):Prop where
  base:attributeBase o m X.env (eval o X.env)=eval o X.env
  few:((backTo cpos (starEach [e] X.env)).all (λ x=> !x.1)&&(backToKw cpos (keywordEach [] X.env)).all (λ x=>x.1.isSome)
    && decide (([e]:List Expr).length+([]:List Keyword).length+(if ([]:List Keyword).isEmpty then 0 else 1)<30))=true
  line:(apos.endLine == cpos.line)=true
  trees:backTo cpos (starEach [e] X.env)=[(false,eval e X.env)]
structure M2 (X:Cx) (o:Expr) (m:Str) (apos:Pos) (e f:Expr) (cpos:Pos):Prop where
  base:attributeBase o m X.env (eval o X.env)=eval o X.env
  few:((backTo cpos (starEach [e,f] X.env)).all (λ x=> !x.1)&&(backToKw cpos (keywordEach [] X.env)).all (λ x=>x.1.isSome)
    && decide (([e,f]:List Expr).length+([]:List Keyword).length+(if ([]:List Keyword).isEmpty then 0 else 1)<30))=true
  line:(apos.endLine == cpos.line)=true
  trees:backTo cpos (starEach [e,f] X.env)=[(false,eval e X.env),(false,eval f X.env)]
section
variable {X:Cx} {pins:List (Addr × Obj)} {σ:St} {H:Hp} {s:Shared} {a:Addr} {y d:V} {u r:Value} {o:Option V} {A:Around} {E:Value->Shared->Prop}
end
section
variable {X:Cx} {o e f:Expr} {apos cpos:Pos} {td ty tx:TE}
end
section
variable {X:Cx} {pins:List (Addr × Obj)} {σ:St} {H:Hp} {s:Shared} {a:Addr} {kvs:List (Key × V)} {A:Around} {E:Value->Shared->Prop}
end
section
variable {X:Cx} {pins:List (Addr × Obj)} {σ:St} {H:Hp} {s:Shared} {a:Addr} {y:V} {u:Value} {A:Around} {E:Value->Shared->Prop}
end
section
variable {P:Program} {w:World} {K:PySem.W.Frag} {mg:Str->Option Value} {base:Heap}
end
section
variable {X:Cx}
end
section
variable {κ:Type} [DecidableEq κ]
theorem nd_snoc:∀ {l:List κ} {k:κ},l.Nodup->¬ k∈l->(l++[k]).Nodup
  | [],k,_,_=>by simp
  | a::r,k,h,hk=>by
    obtain ⟨h1,h2⟩:=Ag2.mp h;show (a::(r++[k])).Nodup;refine Ag2.mpr ⟨λ m=> ?_,nd_snoc h2 λ m=>hk (Ac2.mpr (Or.inr m))⟩;rcases Ac4.mp m with q | q
    · exact h1 q
    · exact hk (Ac2.mpr (Or.inl (Ab7.mp q).symm))
end
def Av (cells:List (Str × Addr)):List (Str × NameKind)->List (Str × Addr)->List (Str × Addr)
  | [],acc=>acc
  | (n,k)::r,acc=>Av cells r (if k= .free then (match cells.lookup n with | some a=>(n,a)::acc | none=>acc) else acc)
theorem DM {env:Env}:∀ (names:List (Str × NameKind)) (acc:List (Str × Addr)),(∀ y∈names,y.2= .free->∃ c,env.cells.lookup y.1=some c)->
    (forIn names acc λ (x:Str × NameKind) (r:List (Str × Addr))=>
      (if (x.2 == NameKind.free)=true then (do let a <-cellOf env x.1;pure (ForInStep.yield ((x.1,a)::r))) else pure (ForInStep.yield r):Sem (ForInStep (List (Str × Addr)))))=(pure (Av env.cells names acc):Sem (List (Str × Addr)))
  | [],acc,_=>rfl
  | (n,k)::Bm,acc,h=>by
    rw [List.forIn_cons];have ih:=λ acc'=>DM (env:=env) Bm acc' λ y hy=>h y (Ad1 _ hy);by_cases hk:k= .free
    · subst hk;obtain ⟨c,hc⟩:=h (n, .free) Ae1 rfl;have hc:env.cells.lookup n=some c:=hc;have e:cellOf env n=pure c:=by unfold cellOf;rw [hc]
      simp only [beq_self_eq_true,if_true,e,pure_bind,Av,hc];exact ih _
    · have hb:(k == NameKind.free)=false:=by simpa using hk
      simp only [hb,Ab9,if_false,pure_bind,Av,if_neg hk];exact ih _
theorem Cj {env:Env} {scope:Scope} (h:∀ y∈scope.names,y.2= .free->∃ c,env.cells.lookup y.1=some c):closureFor scope env=pure (Av env.cells scope.names []):=by
  have e:=DM (env:=env) scope.names [] h;unfold closureFor;simp only [bind_pure_comp,bind_pure,map_pure] at*;exact e
theorem El {cells:List (Str × Addr)}:∀ (names:List (Str × NameKind)) (acc:List (Str × Addr)),(∀ x c,acc.lookup x=some c->cells.lookup x=some c)->∀ x c,(Av cells names acc).lookup x=some c->cells.lookup x=some c
  | [],acc,h,x,c,e=>h x c e
  | (n,k)::r,acc,h,x,c,e=>by
    refine El r _ ?_ x c e;intro y d q;split at q
    · split at q
      · rename_i a ha
        rw [Ah4] at q;split at q
        · rename_i hy
          cases q;rw [eq_of_beq hy];exact ha
        · exact h y d q
      · exact h y d q
    · exact h y d q
theorem DY {cells:List (Str × Addr)}:∀ (names:List (Str × NameKind)) (acc:List (Str × Addr)) (x:Str),(((x,NameKind.free)∈names/\∃ c,cells.lookup x=some c)\/∃ c,acc.lookup x=some c)->∃ c,(Av cells names acc).lookup x=some c
  | [],acc,x,h=>by
    rcases h with ⟨h,_⟩ | h
    · cases h
    · exact h
  | (n,k)::r,acc,x,h=>by
    refine DY r _ x ?_;have up:(∃ c,acc.lookup x=some c)->∃ c,(if k= .free then (match cells.lookup n with | some a=>(n,a)::acc | none=>acc) else acc).lookup x=some c:=by
      rintro ⟨c,hc⟩;split
      · split
        · rename_i a ha
          rw [Ah4];split
          · exact ⟨_,rfl⟩
          · exact ⟨c,hc⟩
        · exact ⟨c,hc⟩
      · exact ⟨c,hc⟩
    rcases h with ⟨h,c,hc⟩ | h
    · rcases Ac2.mp h with e | e
      · cases e;right;refine ⟨c,?_⟩;rw [if_pos rfl,hc,Ah4,beq_self_eq_true]
      · exact .inl ⟨e,c,hc⟩
    · exact .inr (up h)
theorem CV (env:Env) (x:Str):∀ names:List (Str × NameKind),
    (names.map λ (n,k)=>if (k == NameKind.free&&env.scope.kind == .function&&env.kindOf n == some .cell) then (n,NameKind.cell) else (n,k)).lookup x=
      (names.lookup x).map λ k=>if (k == NameKind.free&&env.scope.kind == .function&&env.kindOf x == some .cell)=true then NameKind.cell else k
  | []=>rfl
  | (n,k)::r=>by
    have ih:=CV env x r;show List.lookup x ((if (k == NameKind.free&&env.scope.kind == .function&&env.kindOf n == some .cell)=true then (n,NameKind.cell) else (n,k))::_)=_;cases hx:x == n with
    | true=>
      have e:x=n:=eq_of_beq hx;subst e;by_cases hc:(k == NameKind.free&&env.scope.kind == .function&&env.kindOf x == some .cell)=true
      · rw [if_pos hc,Ah4,Ah4,beq_self_eq_true];simp only [Ae9,if_pos hc]
      · rw [if_neg hc,Ah4,Ah4,beq_self_eq_true];simp only [Ae9,if_neg hc]
    | false=>
      have e:(List.lookup x ((n,k)::r))=List.lookup x r:=by rw [Ah4,hx]
      rw [e, <-ih];split <;> rw [Ah4,hx]
structure BlkScope (X:Cx) (scope:Scope) (own:List Str) (fr:List (Str × Nat)):Prop where
  kind:scope.kind= .function
  nocell:∀ y∈scope.names,y.2≠ .cell
  loc:∀ y∈scope.names,y.2= .local->scope.names.lookup y.1=some .local
  free:∀ y∈scope.names,y.2= .free->(X.env.scope.names.lookup y.1=some .cell\/X.env.scope.names.lookup y.1=some .free)
  fr:∀ p∈fr,X.N[p.2]?=some p.1/\(p.1,NameKind.free)∈scope.names
  only:∀ x,(x,NameKind.free)∈scope.names->scope.names.lookup x=some .free
def AO (X:Cx) (scope:Scope) (own:List Str) (fr:List (Str × Nat)) (C:Addr) (ex:List Addr) (s:Shared) (H:Hp):Cx where
  prog:=X.prog
  w:=X.w
  K:=X.K
  mg:=X.mg
  base:=X.base
  A:=X.A
  N:=own++fr.map (·.1)
  s₀:=s
  H₀:=H
  env:=compEnvC scope (Av X.env.cells scope.names []) C X.env
  outer:=X.stack
  stack:=X.stack
  ex:=ex
  fn:=λ _=>false
  calm:=X.calm
  pn:=[]
  xe:=λ _ _=>False
def BD (own:List Str) (fr:List (Str × Nat)) (σ:St):St:=own.map (λ _=>none)++fr.map (λ p=>(σ[p.2]?).getD none)
section
variable {X:Cx} {pins:List (Addr × Obj)} {σ:St} {H:Hp} {s:Shared} {scope:Scope} {own:List Str} {fr:List (Str × Nat)} {fp:List Addr}
theorem BlkScope.cells (S:BlkScope X scope own fr) (ok:X.Ok):∀ y∈scope.names,y.2= .free->∃ c,X.env.cells.lookup y.1=some c:=λ y hy e=>ok.has y.1 (S.free y hy e)
theorem Inv.block {h':Heap} {t':Nat} {m:Str->Option Value} (I:Inv X pins σ H s) (S:BlkScope X scope own fr) (hf:∀ b∈fp,Ce X pins H b) (hlt:∀ b∈fp,b<s.heap.objs.size)
    (hns:h'.Ns s.heap.objs.size m) (k:∀ b o,s.heap.get? b=some o->h'.get? b=some o):
    Inv (AO X scope own fr s.heap.objs.size fp s H) [] (BD own fr σ) H { s with heap:=h',toks:=t' }:=by
  have cs:∀ x c,(Av X.env.cells scope.names []).lookup x=some c->X.env.cells.lookup x=some c:=El _ _ (λ _ _ e=>by simp at e);have ck:∀ c v,s.heap.IsCell c v->h'.IsCell c v:=λ c v ⟨o,ho,hd⟩=>⟨o,k _ _ ho,hd⟩;have kf:∀ x,(x,NameKind.free)∈scope.names->∃ c,X.env.cells.lookup x=some c/\(Av X.env.cells scope.names []).lookup x=some c:=λ x hx=>by
    obtain ⟨c0,e0⟩:=S.cells I.ok (x, .free) hx rfl;obtain ⟨c,e⟩:=DY (cells:=X.env.cells) scope.names [] x (.inl ⟨hx,c0,e0⟩);exact ⟨c,cs _ _ e,e⟩
  have rel:∀ x,(compEnvC scope (Av X.env.cells scope.names []) s.heap.objs.size X.env).kindOf x=(scope.names.lookup x).map λ k=>if (k == NameKind.free&&X.env.scope.kind == .function&&X.env.kindOf x == some .cell)=true then NameKind.cell else k:=λ x=>CV X.env x scope.names
  have nc:∀ x,scope.names.lookup x≠some .cell:=λ x e=>S.nocell _ (PySem.mem_of_lookup e) rfl;refine ⟨⟨I.ok.mod,S.kind,I.ok.glob,I.ok.blt,Aa6 _,λ x y c e1 e2=>I.ok.inj x y c (cs _ _ e1) (cs _ _ e2),λ x hx=> ?_,λ x c e _=>(nomatch e),I.ok.hd,I.ok.frames, .inl rfl,
    λ b hb=>⟨Ac9 (hlt b hb),λ x c e=>(hf b hb).2.2.2.2.1 x c (cs _ _ e)⟩,I.bs,Ae0 I.ok.bsz I.sz,λ b o e hb=> ?_,λ b hb z=>(Ac2.mp (I.stkSub b z)).elim (hf b hb).2.1 (hf b hb).2.2.1,I.stack,I.stkFree⟩,
    rfl,I.bare,Un.kept k,⟨m,hns,λ i x v e1 e2 e3=> ?_⟩,λ x c e=> ?_,I.hok.fresh (Aa6 _),λ x c e=>I.freeC x c (cs _ _ e),λ p hp=>absurd (show p∈([]:List (Addr × Obj)) from hp) (by simp),I.hok.kept k,?_⟩
  · have hx:(compEnvC scope (Av X.env.cells scope.names []) s.heap.objs.size X.env).kindOf x=some .cell\/(compEnvC scope (Av X.env.cells scope.names []) s.heap.objs.size X.env).kindOf x=some .free:=hx;rw [rel x] at hx;have q:scope.names.lookup x=some .free:=by
      cases e:scope.names.lookup x with
      | none=>rw [e] at hx;simp at hx
      | some kk=>
        rw [e] at hx;simp only [Ae9,Ae7.injEq] at hx;by_cases hk:kk= .free
        · rw [hk]
        · have hb:(kk == NameKind.free)=false:=by simpa using hk
          simp only [hb,Ai3,Ab9,if_false] at hx;rcases hx with hx | hx
          · rw [hx] at e;exact absurd e (nc x)
          · exact absurd hx hk
    obtain ⟨c,_,e⟩:=kf x (PySem.mem_of_lookup q);exact ⟨c,e⟩
  · rcases (hf b hb).2.2.2.1 with z | z
    · exact I.ok.noex b o e z
    · exact absurd (Ac3 (Aa9 (I.ok.bs b o e).1) z) (Ae5 _)
  · have e1:(own++fr.map (·.1))[i]?=some x:=e1;have e2:(BD own fr σ)[i]?=some (some v):=e2;unfold BD at e2;by_cases hi:i<own.length
    · rw [Ab5 (by simpa using hi),Aa8] at e2;rw [Aa1 hi] at e2;simp at e2
    · rw [Ac6 (by simpa using hi),Aa8,Aa2] at e2;rw [Ac6 (by omega),Aa8] at e1;cases ep:fr[i - own.length]? with
      | none=>rw [ep] at e1;simp at e1
      | some p=>
        rw [ep] at e1 e2;simp only [Ae9,Ae7.injEq] at e1 e2;subst e1;obtain ⟨h1,h2⟩:=S.fr p (Ad0 ep);have e4:σ[p.2]?=some (some v):=by
          cases q:σ[p.2]? with
          | none=>rw [q] at e2;simp at e2
          | some z=>rw [q] at e2;simp at e2;rw [e2]
        have kx:=S.free _ h2 rfl;obtain ⟨m0,hn0,hl0⟩:=I.loc;obtain ⟨u,r,l⟩:=hl0 p.2 p.1 v h1 e4 (kx.elim (λ z=> .inr (.inl z)) λ z=> .inr (.inr z));refine ⟨u,r,?_⟩;rcases l with ⟨z,_⟩ | ⟨_,c,hc,hcell⟩
        · have z:X.env.scope.names.lookup p.1=some .local:=z;rcases kx with y | y <;> (rw [y] at z;cases z)
        · obtain ⟨c',q1,q2⟩:=kf p.1 h2;rw [hc] at q1;cases q1;refine .inr ⟨?_,c,q2,ck _ _ hcell⟩;show (compEnvC scope (Av X.env.cells scope.names []) s.heap.objs.size X.env).kindOf p.1=some .cell\/(compEnvC scope (Av X.env.cells scope.names []) s.heap.objs.size X.env).kindOf p.1=some .free;have e3:(compEnvC scope (Av X.env.cells scope.names []) s.heap.objs.size X.env).kindOf p.1=some .local\/(compEnvC scope (Av X.env.cells scope.names []) s.heap.objs.size X.env).kindOf p.1=some .cell\/(compEnvC scope (Av X.env.cells scope.names []) s.heap.objs.size X.env).kindOf p.1=some .free:=e3;rcases e3 with e3 | e3
          · exfalso;rw [rel] at e3;cases e:scope.names.lookup p.1 with
            | none=>rw [e] at e3;cases e3
            | some kk=>
              rw [e] at e3;simp only [Ae9,Ae7.injEq] at e3;by_cases hk:kk= .free
              · subst hk;split at e3 <;> cases e3
              · have hb:(kk == NameKind.free)=false:=by simpa using hk
                simp only [hb,Ai3,Ab9,if_false] at e3;subst e3;have:=S.only p.1 h2;rw [this] at e;cases e
          · exact e3
  · obtain ⟨v,z⟩:=I.cell x c (cs _ _ e);exact ⟨v,ck _ _ z⟩
  · unfold BD;show _=(own++fr.map (·.1)).length;simp
end
theorem Fu {prog:Program} {w:World} {A:Around} {R:Result->Shared->Prop} {s:Shared} {elt target iter:Expr} {ifs:List Expr} {scope:Scope} {pos:Pos} {it acc:Value} {env:Env} (I:Nat->Shared->Prop)
    (turn:∀ n s,I n s->wpAny (model prog w) A (pyNext it) (λ r s₁=>match r with
      | none=>R (.ok .next) s₁
      | some v=>wpAny (model prog w) A (letOwnedTupleGo target it v) (λ _ s₁'=>wpAny (model prog w) A (assign target env v) (λ _ s₂=>
          wpAny (model prog w) A (forIn ifs true λ c r=>if r=true then do let ok <-isTrue c env (eval c env);pure (ForInStep.yield ok) else pure (ForInStep.yield r)) (λ ok s₃=>
            if ok=true then wpAny (model prog w) A (eval elt env) (λ x s₄=>
              wpAny (model prog w) A (call (.builtin "list.append") [acc,x]) (λ _ s₅=>∃ m,m<n/\I m s₅) (λ _ _=>False) s₄) (λ _ _=>False) s₃
            else ∃ m,m<n/\I m s₃) (λ _ _=>False) s₂) (λ _ _=>False) s₁') (λ _ _=>False) s₁) (λ _ _=>False) s)
    (n:Nat) (h:I n s):codeAny (model prog w) A (.compLoop (.ListComp elt [⟨target,iter,ifs,0⟩] scope pos) 0 it acc env) R s:=by
  refine codeAny_loop rfl I (λ n s hI=> ?_) n h;show wpAny _ A ((compTurn (.ListComp elt [⟨target,iter,ifs,0⟩] scope pos) 0 it acc env).onRaise (λ x=>do noteFrame x env;theTreesLotGoes x)) _ _ s;refine wpAny_noted ?_;rw [compTurn_list];refine Aa3 (wpAny_standAt (Aa3 (Ag6 (turn n s hI) (λ r s₁ h₁=> ?_) λ _ _ f=>f.elim)));cases r with
  | none=>exact Aa7 h₁
  | some v=>
    refine Aa3 (Ag6 h₁ (λ _ s₁' h₁'=>Aa3 (Ag6 h₁' (λ _ s₂ h₂=>Aa3 (Ag6 h₂ (λ ok s₃ h₃=> ?_) λ _ _ f=>f.elim)) λ _ _ f=>f.elim)) λ _ _ f=>f.elim);cases ok with
    | false=>exact Aa7 ⟨rfl,h₃⟩
    | true=>
      exact Aa3 (Aa3 (Ag6 h₃ (λ x s₄ h₄=>Aa3 (Ag6 h₄ (λ _ s₅ h₅=>Aa7 (Aa7 ⟨rfl,h₅⟩)) λ _ _ f=>f.elim)) λ _ _ f=>f.elim))
section
variable {X:Cx}
def PTs (X:Cx) (ifs:List Expr) (tc:TT):Prop:=
  ∀ (pins:List (Addr × Obj)) (s:Shared) (σ:St) (H:Hp) (Q:Bool->Hp->Prop),Inv X pins σ H s->tc σ H Q->
    wpAny (model X.prog X.w) X.A (forIn ifs true λ c r=>if r=true then do let ok <-isTrue c X.env (eval c X.env);pure (ForInStep.yield ok) else pure (ForInStep.yield r)) (TP X pins σ Q) X.xe s
def LX:TT:=λ _ H Q=>Q true H
theorem AJ:PTs X [] LX:=λ _ _ _ H _ I h=>wpAny_tests_nil ⟨H,I,h⟩
theorem B8 {c:Expr} {tc:TT} (h:PT X c tc):PTs X [c] tc:=λ pins s σ H Q I q=>wpAny_tests_one (h pins s σ H Q I q)
def Kp (σ0 σ:St):Prop:=σ.length=σ0.length/\∀ (i:Nat) (v:V),σ0[i]?=some (some v)->σ[i]?=some (some v)
theorem Kp.refl (σ:St):Kp σ σ:=⟨rfl,λ _ _ h=>h⟩
theorem Kp.set {σ0 σ:St} {i:Nat} {v:V} (k:Kp σ0 σ) (h:σ0[i]?=some none):Kp σ0 (σ.set i (some v)):=by
  refine ⟨by rw [List.length_set];exact k.1,λ j u e=> ?_⟩;by_cases hj:i=j
  · subst hj;rw [h] at e;cases e
  · rw [List.getElem?_set_ne hj];exact k.2 j u e
def DK (J:It) (σ0:St) (g:TG) (tc:TT) (te:TE) (Q:VK) (H1:Hp) (D:Addr):Prop:=
  ∃ W:Nat->Nat->List V->Hp->Prop,(∃ m,W 0 m [] (upd H1 D (.lst [])))/\∀ i m ys H,W i m ys H->
    (J.stop i H/\Q (.ref D) H)\/(J.go i H/\∃ N:List V->Hp->Prop,(∀ ys' H',N ys' H'->∃ m',m'<m/\W (i+1) m' ys' H')/\∀ x H',J.yld i H x H'->g x σ0 H' λ σ2 H2=>Kp σ0 σ2/\tc σ2 H2 λ b H3=>
      if b=true then te σ2 H3 λ y H4=>H4 D=some (.lst ys)/\ys.length<sizeLine/\N (ys++[y]) (upd H4 D (.lst (ys++[y]))) else N ys H3)
def DN (wi:TI) (own:List Str) (fr:List (Str × Nat)) (g:TG) (tc:TT) (te:TE):TE:=λ σ H Q=>wi σ H λ J H1=>∀ D,H1 D=none->DK J (BD own fr σ) g tc te Q H1 D
theorem Jn {elt tg iter:Expr} {ifs:List Expr} {scope:Scope} {pos:Pos} {own:List Str} {fr:List (Str × Nat)} {g:TG} {tc:TT} {te:TE} (hc:X.calm=true) (S:BlkScope X scope own fr)
    (hg:∀ C ex s H,PG (AO X scope own fr C ex s H) tg g) (ht:∀ C ex s H,PTs (AO X scope own fr C ex s H) ifs tc) (he:∀ C ex s H,PE (AO X scope own fr C ex s H) elt te)
    {pins:List (Addr × Obj)} {σ:St} {H:Hp} {s:Shared} {it:Addr} {fp:List Addr} {tn:Nat->Heap->Prop} {J:It} {E:Value->Shared->Prop}
    (I:Inv X pins σ H s) (T:Turn X.prog X.w X.K tg J fp it tn) (st:tn 0 s.heap) (hf:∀ b∈fp,Ce X pins H b) {Q:VK}
    (h:∀ D,H D=none->DK J (BD own fr σ) g tc te Q H D)
    {RR:Value->Addr->Result->Shared->Prop}
    (hR:∀ D C H' s',Inv X pins σ H' s'->(∃ m,s'.heap.Ns C m)->Ce X pins H' C->Q (.ref D) H'->RR (.ref D) C (.ok .next) s'):
    wpAny (model X.prog X.w) X.A (newList []) (λ acc s₃=>wpAny (model X.prog X.w) X.A (newFunctionEnv scope X.env.globals (Av X.env.cells scope.names []) [] X.env.qual none .none (some X.env)) (λ cenv s₄=>
      codeAny (model X.prog X.w) X.A (.compStart (.ListComp elt [⟨tg,iter,ifs,0⟩] scope pos) 0 (.ref it) acc { cenv with scope:=relabel scope X.env }) (RR acc cenv.locals) s₄) E s₃) E s:=by
  have hDn:H s.heap.objs.size=none:=I.fresh;obtain ⟨W,⟨m0,w0⟩,turn⟩:=h s.heap.objs.size hDn;have I3:Inv X pins σ (upd H s.heap.objs.size (.lst [])) { s with heap:=s.heap.push { cls:= .type "list",data:= .seq ([]:List Value).toArray },toks:=s.toks }:=I.lnew .nil (Ad3 _);refine Ag3 ?_;generalize hs3:({ s with heap:=s.heap.push { cls:= .type "list",data:= .seq ([]:List Value).toArray } }:Shared)=s3 at I3 ⊢;have I3:Inv X pins σ (upd H s.heap.objs.size (.lst [])) s3:=I3;have old3:∀ b o,s.heap.get? b=some o->s3.heap.get? b=some o:=λ b o e=>by rw [<-hs3];exact Aa4 _ e
  have hobj:∀ b∈fp,∃ o,s.heap.get? b=some o/\∀ v,o.data≠ .cell v:=T.obj 0 _ st;have hne:∀ b∈fp,b≠s.heap.objs.size:=λ b hb=>by obtain ⟨o,e,_⟩:=hobj b hb;exact Ac9 (Aa9 e)
  have hf3:∀ b∈fp,Ce X pins (upd H s.heap.objs.size (.lst [])) b:=λ b hb=>⟨by rw [Ak (hne b hb)];exact (hf b hb).1,(hf b hb).2⟩;have hlt3:∀ b∈fp,b<s3.heap.objs.size:=λ b hb=>by obtain ⟨o,e,_⟩:=hobj b hb;exact Aa9 (old3 b o e)
  refine wpAny_newFunctionEnv S.nocell (by intro y hy;simp at hy) (λ h₁ hns hsb=> ?_) S.kind;have keep:∀ b o,s3.heap.get? b=some o->h₁.get? b=some o:=λ b o e=>hsb.extBut b o (Ac9 (Aa9 e)) (Aa4 _ e);have J0:=I3.block (t':=s3.toks+([]:List (Str × Value)).length) S hf3 hlt3 hns keep;have st3:tn 0 h₁:=T.keep 0 _ _ st λ b hb o e=>keep b o (old3 b o e);have loop:codeAny (model X.prog X.w) X.A (.compLoop (.ListComp elt [⟨tg,iter,ifs,0⟩] scope pos) 0 (.ref it) (.ref s.heap.objs.size) (compEnvC scope (Av X.env.cells scope.names []) s3.heap.objs.size X.env))
      (RR (.ref s.heap.objs.size) s3.heap.objs.size) { s3 with heap:=h₁,toks:=s3.toks+([]:List (Str × Value)).length }:=by
    have stat:∀ {H':Hp},(∀ b∈fp,H' b=none)->∀ b∈fp,Ce (AO X scope own fr s3.heap.objs.size fp s3 (upd H s.heap.objs.size (.lst []))) [] H' b:=λ {H'} hn b hb=>
      ⟨hn b hb,Ac9 (hlt3 b hb),J0.ok.exfs b hb, .inl hb,(J0.ok.exf b hb).2,λ p hp=>absurd (show p∈([]:List (Addr × Obj)) from hp) (by simp)⟩
    refine Fu (λ n s'=>∃ i ys H',Inv (AO X scope own fr s3.heap.objs.size fp s3 (upd H s.heap.objs.size (.lst []))) [] (BD own fr σ) H' s'/\tn i s'.heap/\(∀ b∈fp,H' b=none)/\W i n ys H') ?_ m0
      ⟨0,[],_,J0,st3,λ b hb=>(hf3 b hb).1,w0⟩
    rintro n s4 ⟨i,ys,H4,I4,st4,fr4,w4⟩;rcases turn i n ys H4 w4 with ⟨stop,q⟩ | ⟨go,N,hN,step⟩
    · refine thn (T.done (AO X scope own fr s3.heap.objs.size fp s3 (upd H s.heap.objs.size (.lst []))) rfl rfl rfl hc i [] s4 _ H4 (λ _ _=>False) I4 (stat fr4) st4 stop) λ r s5 ⟨hr,I5⟩=> ?_;subst hr;obtain ⟨m,hn,_⟩:=id I5.loc;exact hR _ _ H4 s5 (I3.call' I5.os I5.base I5.hok I5.bare λ b hb=>⟨(hf3 b hb).2.2.2.1,(hf3 b hb).2.1,(hf3 b hb).2.2.2.2.1,(hf3 b hb).2.2.2.2.2⟩) ⟨m,hn⟩ (I3.fpOk (Aa6 _) I5.free) q
    · refine thn (T.item (AO X scope own fr s3.heap.objs.size fp s3 (upd H s.heap.objs.size (.lst []))) rfl rfl rfl hc i [] s4 _ H4 (λ _ _=>False) I4 (stat fr4) st4 go) λ r s5 ⟨u,hr,h5⟩=> ?_;subst hr;refine thn h5 λ _ s6 ⟨x,H6,I6,r6,y6,st6,fr6⟩=> ?_;have I6':=I6.pinned (stat fr6) (T.obj _ _ st6);refine thn (hg _ _ _ _ _ s6 _ H6 x u _ I6' r6 (step x H6 y6)) λ _ s7 ⟨σ7,H7,I7,kp,q7⟩=> ?_;refine thn (ht _ _ _ _ _ s7 σ7 H7 _ I7 q7) λ b s8 ⟨H8,I8,q8⟩=> ?_;have again:∀ {s9:Shared} {H9:Hp} {ys':List V},Inv (AO X scope own fr s3.heap.objs.size fp s3 (upd H s.heap.objs.size (.lst []))) ([]++E4 fp s6.heap) σ7 H9 s9->N ys' H9->
          ∃ m,m<n/\∃ i ys H',Inv (AO X scope own fr s3.heap.objs.size fp s3 (upd H s.heap.objs.size (.lst []))) [] (BD own fr σ) H' s9/\tn i s9.heap/\(∀ b∈fp,H' b=none)/\W i m ys H':=λ {s9 H9 ys'} I9 n9=>by
        obtain ⟨m',hm,w9⟩:=hN ys' H9 n9;refine ⟨m',hm,i+1,ys',H9,I9.unpinned.weak kp.1.symm kp.2,T.keep _ _ _ st6 λ b hb o e=>(I9.pin (b,o) (Ac1 _ (Ac1 _ (Bv hb e)))).1,λ b hb=> ?_,w9⟩;obtain ⟨o,e,d⟩:=T.obj _ _ st6 b hb;exact (I9.pin (b,o) (Ac1 _ (Ac1 _ (Bv hb e)))).2.1
      cases b with
      | false=>
        rw [if_neg Ab4] at q8 ⊢;exact again I8 q8
      | true=>
        rw [if_pos rfl] at q8 ⊢;refine thn (he _ _ _ _ _ s8 σ7 H8 _ I8 q8) λ xv s9 ⟨y,H9,I9,r9,hD,hl,n9⟩=> ?_;refine thn (AG _ s9 σ7 H9 (.ref s.heap.objs.size) [y] (.ref s.heap.objs.size) [xv] (λ _ H'=>H'=upd H9 s.heap.objs.size (.lst (ys++[y]))) I9 rfl (.cons r9 .nil) ⟨_,ys,y,rfl,rfl,hD,hl,rfl⟩) λ _ s10 ⟨_,H10,I10,_,q10⟩=> ?_;subst q10;exact again I10 n9
  exact codeAny_compStart_list loop (T.self _ 0 _ _ _ st3 loop)
theorem FP {elt tg iter:Expr} {ifs:List Expr} {scope:Scope} {pos:Pos} {own:List Str} {fr:List (Str × Nat)} {wi:TI} {g:TG} {tc:TT} {te:TE} (hc:X.calm=true) (S:BlkScope X scope own fr) (hi:PI X tg iter wi)
    (hg:∀ C ex s H,PG (AO X scope own fr C ex s H) tg g) (ht:∀ C ex s H,PTs (AO X scope own fr C ex s H) ifs tc) (he:∀ C ex s H,PE (AO X scope own fr C ex s H) elt te)
    (hs:∀ x,foldedSetIterable iter X.env x=pure x:=by intro _;rfl):PE X (.ListComp elt [⟨tg,iter,ifs,0⟩] scope pos) (DN wi own fr g tc te):=by
  intro pins s σ H Q I h;rw [eval_ListComp];refine wpAny_comprehension_free (use:=none) rfl hs (Cj (S.cells I.ok)) S.kind S.loc (thn (hi pins s σ H _ I h) λ xv s₁ h₁=>thn h₁ λ itv s₂ h₂=> ?_);obtain ⟨it,fp,tn,J,H2,rfl,I2,T,st2,f2,h2⟩:=h₂;refine Jn (RR:=λ acc C=>compPost (model X.prog X.w) X.A X.xe none (EP X pins σ Q) acc C) hc S hg ht he I2 T st2 f2 h2 ?_;rintro D C H' s' I' ⟨m,hn⟩ f q;exact ⟨m,hn,λ h' sb=>⟨.ref D,H',I'.turned (t':=s'.toks) (it:=C) (λ b o hb e=>(sb.2 b hb).trans e) f.1 f.2.1 f.2.2.2.1 f.2.2.2.2.1 f.2.2.2.2.2,rfl,q⟩⟩
theorem Pq {i:Nat} {x:Str} {px spos:Pos} {elt tg iter:Expr} {ifs:List Expr} {scope:Scope} {pos:Pos} {own:List Str} {fr:List (Str × Nat)} {wi:TI} {g:TG} {tc:TT} {te:TE} (hN:X.N.Nodup) (hix:X.N[i]?=some x) (hx:Loc X.env.scope x)
    (hc:X.calm=true) (S:BlkScope X scope own fr) (hi:PI X tg iter wi)
    (hg:∀ C ex s H,PG (AO X scope own fr C ex s H) tg g) (ht:∀ C ex s H,PTs (AO X scope own fr C ex s H) ifs tc) (he:∀ C ex s H,PE (AO X scope own fr C ex s H) elt te)
    (hsw:swapsWith (.ListComp elt [⟨tg,iter,ifs,0⟩] scope pos) (some (.Name x px)) spos.line X.env=pure true:=by rfl)
    (hf:X.fn x=true\/X.env.scope.names.lookup x=some .local:=by first | exact .inl rfl | exact .inr rfl | assumption)
    (hs:∀ x,foldedSetIterable iter X.env x=pure x:=by intro _;rfl):PS X (.Assign [.Name x px] (.ListComp elt [⟨tg,iter,ifs,0⟩] scope pos) spos) (M5 (DN wi own fr g tc te) (Ax i)):=by
  intro pins s σ H D I h;rw [exec_Assign_Name_used _ _ _ _ hsw];refine Aa3 (wpAny_standAt (Aa3 ?_));show wpAny _ X.A (do let _ <-comprehension (.ListComp elt [⟨tg,iter,ifs,0⟩] scope pos) scope X.env _ (newList []) false (eval iter X.env) (some (assign (.Name x px) X.env))) _ _ s;refine Aa3 (Ag6 (wpAny_comprehension_free (use:=some (assign (.Name x px) X.env)) (Q:=λ _ s'=>SP X pins D .next s') rfl hs (Cj (S.cells I.ok)) S.kind S.loc
    (thn (hi pins s σ H _ I h) λ xv s₁ h₁=>thn h₁ λ itv s₂ h₂=> ?_)) (λ _ s' hq=>Aa7 (Aa7 hq)) λ _ _ e=>e)
  obtain ⟨it,fp,tn,J,H2,rfl,I2,T,st2,f2,h2⟩:=h₂;refine Jn (Q:=λ x H1=>Ax i x σ H1 D.nx) (RR:=λ acc C=>compPost (model X.prog X.w) X.A X.xe (some (assign (.Name x px) X.env)) (λ _ s'=>SP X pins D .next s') acc C) hc S hg ht he I2 T st2 f2 h2 ?_;rintro Dl C H' s' I' ⟨m,hn⟩ f q;obtain ⟨o,es,ep,ho,hd,r⟩:=hn;have pinC:∀ v,o.data≠ .cell v:=λ v z=>by rw [hd] at z;cases z
  have I'':Inv X (pins++[(C,o)]) σ H' s':=I'.pins_of λ p hp=>(Ac4.mp hp).elim (λ z=>I'.pin p (Ac1 _ z)) λ z=>by
    have e:p=(C,o):=by simpa using z
    subst e;exact ⟨ho,f.1,f.2.1,f.2.2.1,pinC⟩
  show wpAny _ X.A (assign (.Name x px) X.env (.ref Dl)) _ _ s';refine wpAny_assign_Name (EO I'' hN hix hx (v:= .ref Dl) rfl (λ s2 I2=> ?_) hf);have pc:=(I2.pin (C,o) (Ac1 _ (Ac1 _ (by simp)))).1;refine ⟨m,⟨o,es,ep,pc,hd,r⟩,λ h' sb=>⟨_,H',?_,q⟩⟩;exact (I2.unpinned (pl:=[(C,o)])).turned (t':=s2.toks) (it:=C) (λ b o hb e=>(sb.2 b hb).trans e) f.1 f.2.1 f.2.2.2.1 f.2.2.2.2.1 f.2.2.2.2.2
end
def Its (x:Str):It:=⟨λ i _=>i<x.cps.size,λ i H v H'=>H'=H/\∃ c,x.cps[i]?=some c/\v= .str ⟨#[c]⟩,λ i _=>x.cps.size<=i⟩
section
variable {X:Cx} {tg:Expr}
end
section
variable {X:Cx}
theorem Fn:∀ {ns:List Int} {l:List (Int × Tok)},Vals (ns.map V.int) (l.map λ p=>Value.int p.1 p.2)->l.map (·.1)=ns
  | [],[],_=>rfl
  | n::ns,p::l,r=>by
    cases r with
    | cons r1 r2=>
      obtain ⟨t,e⟩:=r1;injection e with e1 e2;rw [Af0,Fn r2,e1]
  | [],_::_,r=>by cases r
  | _::_,[],r=>by cases r
theorem NG (hc:X.calm=true):Bh X (.builtin "sum") (λ xs H Q=>∃ (p:Addr) (ns:List Int),xs=[.ref p]/\SqL X.K H p (ns.map V.int)/\Q (.int ns.sum) H):=by
  intro pins s σ H xs us Q I r h;obtain ⟨p,ns,rfl,hq,q⟩:=h;obtain ⟨u,rfl,rx⟩:=Ds r;cases rx;obtain ⟨its,rv,pl,_⟩:=I.list hq;obtain ⟨ps,e⟩:=(IntsAre.allInts (Gi rv)).items;have e':its=ps.toList.map λ p=>Value.int p.1 p.2:=by
    have:=congrArg Array.toList e;simpa [intItems] using this
  have hl:=pl.isList;rw [e] at hl;refine sum_intListG (I.ok.hd hc) hl λ h' tk t' hk=> ?_;have es:preSum (numAt ps) ps.size=ns.sum:=by
    rw [preSum_eq,Ah7 (by simp),Fn (ns:=ns) (l:=ps.toList) (by rw [<-e'];exact rv)]
  rw [es];exact ⟨.int ns.sum,H,I.kept hk,⟨t',rfl⟩,q⟩
theorem MT (bs:List Bool):(Aa5 bs.length).all (λ i=>bs.getD i true)=bs.all id:=by
  rw [Ae2,Aj2,Aj2];constructor
  · intro h b hb;obtain ⟨i,hi,rfl⟩:=List.getElem_of_mem hb;have:=h i (by simpa using hi);rw [Aa0,Aa1 hi] at this;exact this
  · intro h i hi;have hi:i<bs.length:=by simpa using hi
    rw [Aa0,Aa1 hi];exact h _ (Ad9 hi)
theorem Od (hc:X.calm=true):Bh X (.builtin "all") (λ xs H Q=>∃ (p:Addr) (bs:List Bool),xs=[.ref p]/\SqL X.K H p (bs.map V.bl)/\Q (.bl (bs.all id)) H):=by
  intro pins s σ H xs us Q I r h;obtain ⟨p,bs,rfl,hq,q⟩:=h;obtain ⟨u,rfl,rx⟩:=Ds r;cases rx;obtain ⟨its,rv,pl,_⟩:=I.list hq;have hl:=rv.length;rw [Aa2] at hl;obtain ⟨o,ho,_⟩:=id pl.isList;have hne:p≠s.heap.objs.size:=Ac9 (Aa9 ho);refine call_all_walk (wpAny_pyIter_list pl.isList ?_);refine ⟨s.heap.objs.size,_,_,_,_,_,λ i=>bs.getD i true,rfl,Walks.list (A:=X.A.in1) (I.ok.hd hc) _ p hne its.toArray,⟨⟨_,Ab3 _ rfl,rfl,rfl⟩,pl.isList.at λ o e=>Aa4 _ e⟩,?_,λ h' tk hk=> ?_⟩
  · intro i v s' Q' E' hv hQ';have hv:its[i]?=some v:=by simpa using hv
    have hi:i<bs.length:=by rw [hl];exact (Ab1.mp hv).1
    obtain ⟨u,hu,ru⟩:=rv.get (i:=i) (x:= .bl (bs.getD i true)) (by rw [Aa8,Aa0,Aa1 hi];rfl);rw [hu] at hv;cases hv;cases ru;exact Ai0 hQ'
  · have e:its.toArray.size=bs.length:=by rw [Ab8];exact hl.symm
    rw [e,MT];exact ⟨.bl _,H,I.kept λ b o e=>hk b o (λ z=>by simp at z;exact absurd (Aa9 e) (by rw [z];exact Ae5 _)) (Aa4 _ e),rfl,q⟩
theorem IR:Bh X (.builtin "isinstance") (λ xs H Q=>∃ x n t b,xs=[x, .ty n]/\TyOf X.K H x t/\PySem.W.kitOne X.K t (.type n)=some b/\Q (.bl b) H):=by
  intro pins s σ H xs us Q I r h;obtain ⟨x,n,t,b,rfl,ty,e,q⟩:=h;obtain ⟨u,c,rfl,rx,rc⟩:=QE r;cases rc;exact MO I rx ty e λ tk=>⟨.bl b,H,I.tok tk,rfl,q⟩
def NU (K:PySem.W.Frag):R2:=λ x y H Q=>∃ l b xs zs,x= .ref l/\y= .ref b/\SqL K H l xs/\SqL K H b zs/\xs.length+zs.length<=sizeLine/\∀ p,H p=none->Q (.ref p) (upd H p (.lst (xs++zs)))
theorem Pd:OpR X (binaryOp .Add) (NU X.K):=by
  intro pins s σ H x y v u Q I rx ry h;obtain ⟨l,b,xs,zs,rfl,rfl,hH,hB,hz,q⟩:=h;cases rx;cases ry;obtain ⟨its,r,pl,_⟩:=I.list hH;obtain ⟨its2,r2,pl2,_⟩:=I.list hB;have h1:=r.length;have h2:=r2.length;obtain ⟨⟨cls,dd,data,sl⟩,n,ho,hc,hdd,hd⟩:=pl;obtain ⟨⟨cls2,dd2,data2,sl2⟩,n2,ho2,hc2,hdd2,hd2⟩:=pl2;simp only at hc hdd hd hc2 hdd2 hd2;subst hc hdd hd hc2 hdd2 hd2;refine concat_meets ⟨_,ho,rfl⟩ ⟨_,ho2,rfl⟩ noFill_list_add seq_list_add PySem.F.slot_list_add PySem.F.entry_list_add (PySem.F.args_list_add_2 _ _) (list_addW l b its.toArray its2.toArray n n2 none none sl sl2 (by rw [Ab8,Ab8];omega)) ⟨ho,ho2,?_⟩;have e:its.toArray++its2.toArray=(its++its2).toArray:=by simp
  rw [e];exact ⟨.ref _,_,I.lnew (t':=s.toks) (r.append r2) (by rw [Ab0];omega),rfl,q _ I.fresh⟩
def E3 (xs ys:List V):Bool:=xs.length == ys.length&&(Aa5 xs.length).all λ i=>eqV (xs.getD i .non) (ys.getD i .non)
theorem HF {xs:List V} (h:xs.all Bq=true) {i:Nat} (hi:i<xs.length):Bq (xs.getD i .non)=true:=by
  rw [Aa0,Aa1 hi];exact (Aj2.mp h) _ (Ad9 hi)
def Mz (K:PySem.W.Frag) (neg:Bool):R2:=λ x y H Q=>∃ p q xs ys,x= .ref p/\y= .ref q/\SqL K H p xs/\SqL K H q ys/\xs.all Bq=true/\ys.all Bq=true/\Q (.bl (if neg then !E3 xs ys else E3 xs ys)) H
theorem GK {A:Around} {s:Shared} {xs ys:List V} {its its2:List Value} (r:Vals xs its) (r2:Vals ys its2) (fx:xs.all Bq=true) (fy:ys.all Bq=true):
    ∀ j (h1:j<its.toArray.size) (h2:j<its2.toArray.size),SeqAt.EqAt A s its.toArray[j] its2.toArray[j] (eqV (xs.getD j .non) (ys.getD j .non)):=λ j h1 h2=>by
  have l1:=r.length;have l2:=r2.length;have h1':j<its.length:=by simpa using h1
  have h2':j<its2.length:=by simpa using h2
  have g1:xs[j]?=some (xs.getD j .non):=by rw [Aa0,Aa1 (by omega)];rfl
  have g2:ys[j]?=some (ys.getD j .non):=by rw [Aa0,Aa1 (by omega)];rfl
  obtain ⟨u,e1,ru⟩:=r.get g1;obtain ⟨u2,e2,ru2⟩:=r2.get g2;have q1:its.toArray[j]=u:=by rw [Aa1 h1'] at e1;simpa using Ae7.inj e1
  have q2:its2.toArray[j]=u2:=by rw [Aa1 h2'] at e2;simpa using Ae7.inj e2
  rw [q1,q2];exact NC ru ru2 (HF fx (by omega)) (HF fy (by omega))
theorem Ta (hu:X.A.units<cLine):OpR X (compareOp .Eq) (Mz X.K false):=by
  intro pins s σ H x y v u Q I rx ry h;obtain ⟨p,q,xs,ys,rfl,rfl,h1,h2,fx,fy,hq⟩:=h;cases rx;cases ry;obtain ⟨its,r,pl,_⟩:=I.list h1;obtain ⟨its2,r2,pl2,_⟩:=I.list h2;have l1:=r.length;have l2:=r2.length;by_cases hl:xs.length=ys.length
  · refine SeqAt.eq_listAt pl.isList pl2.isList (by simp;omega) hu (GK r r2 fx fy) ⟨.bl _,H,I,rfl,?_⟩;have e:E3 xs ys=(Aa5 its.toArray.size).all λ i=>eqV (xs.getD i .non) (ys.getD i .non):=by
      unfold E3;rw [hl,beq_self_eq_true,Bool.true_and,Ab8, <-l1,hl]
    rw [<-e];exact hq
  · refine SeqAt.eq_list_lengthsAt pl.isList pl2.isList (by simp;omega) hu ⟨.bl _,H,I,rfl,?_⟩;have e:E3 xs ys=false:=by unfold E3;rw [beq_eq_false_iff_ne.mpr hl,Ai3]
    rw [<-e];exact hq
theorem R5 (hu:X.A.units<cLine):OpR X (compareOp .NotEq) (Mz X.K true):=by
  intro pins s σ H x y v u Q I rx ry h;obtain ⟨p,q,xs,ys,rfl,rfl,h1,h2,fx,fy,hq⟩:=h;cases rx;cases ry;obtain ⟨its,r,pl,_⟩:=I.list h1;obtain ⟨its2,r2,pl2,_⟩:=I.list h2;have l1:=r.length;have l2:=r2.length;by_cases hl:xs.length=ys.length
  · refine SeqAt.RcNeAt.lists pl.isList pl2.isList (by simp;omega) hu (GK r r2 fx fy) _ _ _ _ ⟨.bl _,H,I,rfl,?_⟩;have e:E3 xs ys=(Aa5 its.toArray.size).all λ i=>eqV (xs.getD i .non) (ys.getD i .non):=by
      unfold E3;rw [hl,beq_self_eq_true,Bool.true_and,Ab8, <-l1,hl]
    rw [<-e];exact hq
  · refine SeqAt.RcNeAt.lists_lengths pl.isList pl2.isList (by simp;omega) hu _ _ _ _ ⟨.bl _,H,I,rfl,?_⟩;have e:E3 xs ys=false:=by unfold E3;rw [beq_eq_false_iff_ne.mpr hl,Ai3]
    rw [e] at hq;exact hq
theorem Qb {α:Type} [DecidableEq α] (f:α->V) (hf:∀ a b,eqV (f a) (f b)=decide (a=b)) (as bs:List α):E3 (as.map f) (bs.map f)=decide (as=bs):=by
  unfold E3;rw [Ae2,Ag9,Aj2,decide_eq_true_iff,beq_iff_eq,Aa2,Aa2];constructor
  · rintro ⟨h1,h2⟩;refine Ag0 h1 λ i g1 g2=> ?_;have:=h2 i (by simpa using g1);rw [Aa0,Aa0,Aa8,Aa8,Aa1 g1,Aa1 g2] at this;have:=(hf _ _).symm.trans this;exact of_decide_eq_true this
  · rintro rfl;refine ⟨rfl,λ i hi=> ?_⟩;have hi:i<as.length:=by simpa using hi
    rw [Aa0,Aa8,Aa1 hi];show eqV (f as[i]) (f as[i])=true;rw [hf];exact decide_eq_true rfl
theorem Jm (as bs:List Int):E3 (as.map V.int) (bs.map V.int)=decide (as=bs):=Qb V.int (λ a b=>by show (a == b)=_;rw [Ae2,beq_iff_eq,decide_eq_true_iff]) as bs
theorem EN (as:List Int):(as.map V.int).all Bq=true:=by simp [Bq]
end
def CallF (P:Program) (w:World) (K:PySem.W.Frag) (mg:Str->Option Value) (base:Heap) (x:Str) (k:Nat) (ps:List Str) (sp:Sp):Prop:=
  ∃ f fd,mg x=some (.ref f)/\PySem.W.keepIn K (.ref f)=true/\FnOk P w K mg base CX0 k f fd ps sp/\Binds K fd ps []
section
variable {X:Cx} {x:Str} {k:Nat} {ps:List Str} {sp:Sp} {e:Expr} {es:List Expr} {t:TA} {p pos:Pos}
theorem Ah (h:CallF X.prog X.w X.K X.mg X.base x k ps sp) (hr:Room k X.A) (ha:PA X (e::es) t) (hg:Gl X x:=by rfl) (hdb:(x == ("__debug__":Str))=false:=by decide)
    (he:starEach (e::es) X.env=(false,eval e X.env)::starEach es X.env:=by rfl) (hpl:(backTo pos (starEach es X.env)).any (·.1)=false:=by rfl):
    PE X (.Call (.Name x p) (e::es) [] pos) (Lb sp [] E0 t):=by
  obtain ⟨f,fd,hm,hk,F,hb⟩:=h;exact Pk F hr hg hm hk hb .nil LB ha hdb he hpl
end
structure DefAt (K:PySem.W.Frag) (mg:Str->Option Value) (x:Str) (st:Stmt) (ps:List Str) (f:Addr) (fd:FuncData):Prop where
  fn:Fun K x x st f fd
  at':mg x=some (.ref f)
  bi:Binds K fd ps []
theorem DefAt.call {P:Program} {w:World} {K:PySem.W.Frag} {mg:Str->Option Value} {base:Heap} {x:Str} {st:Stmt} {ps:List Str} {f:Addr} {fd:FuncData} {k:Nat} {sp:Sp} (d:DefAt K mg x st ps f fd)
    (F:FnOk P w K mg base CX0 k f fd ps sp):CallF P w K mg base x k ps sp:=⟨f,fd,d.at',d.fn.kp,F,d.bi⟩
def Nq:V->Bool | .int _=>true | _=>false
def Q0:V->Bool | .bl _=>true | _=>false
def Ty (K:PySem.W.Frag) (H:Hp) (x:V):Prop:=∃ n,TyOf K H x (.type n)
def Kq (n T:String):Option Bool:=if (Value.type n == Value.type T)=true then some true else if PySem.W.kitMeta T=true then (fastBuiltinMro n).map (·.contains (.type T)) else none
section
variable {K:PySem.W.Frag} {H:Hp} {x:V} {n:String}
theorem kb {n T:String} {b:Bool} (h:Kq n T=some b):PySem.W.kitOne K (.type n) (.type T)=some b:=h
theorem Qi (h:TyOf K H x (.type n)):PySem.W.kitOne K (.type n) (.type "int")=some (Nq x||Q0 x):=by
  cases h <;> first
    | exact (show PySem.W.kitOne K _ _=some true from kb (by decide +kernel))
    | exact (show PySem.W.kitOne K _ _=some false from kb (by decide +kernel))
theorem NJ (h:TyOf K H x (.type n)):PySem.W.kitOne K (.type n) (.type "bool")=some (Q0 x):=by
  cases h <;> first
    | exact (show PySem.W.kitOne K _ _=some true from kb (by decide +kernel))
    | exact (show PySem.W.kitOne K _ _=some false from kb (by decide +kernel))
end
section
variable {X:Cx}
def Own (mg:Str->Option Value) (names:List Str):Prop:=∀ x∈names,mg x=none
theorem Mu:bootBuiltins "all"=some (.builtin "all"):=by decide +kernel
theorem LP {x:Str} {T:String} {pos:Pos} (hg:Gl X x) (hm:X.mg x=none) (hv:bootBuiltins x=some (.type T)) (hn:x≠"__name__":=by decide) (hd:(x == ("__debug__":Str))=false:=by decide):PE X (.Name x pos) (tC (.ty T)):=
  PX hg hm hv (show RelV (.ty T) (.type T) from rfl) hn hd
end
def Cd (N:List Str) (scope:Scope):List (Str × Nat):=scope.names.filterMap λ y=>if y.2= .free then (N.findIdx? λ n=>decide (n=y.1)).map λ i=>(y.1,i) else none
def Dp (sc:Scope) (N:List Str) (scope:Scope) (own:List Str) (fr:List (Str × Nat)):Bool:=
  decide (scope.kind= .function)&&
  (scope.names.all λ y=>decide (y.2≠ .cell)&&(decide (y.2≠ .local)||decide (scope.names.lookup y.1=some .local))&&
    (decide (y.2≠ .free)||((decide (sc.names.lookup y.1=some .cell)||decide (sc.names.lookup y.1=some .free))&&decide (scope.names.lookup y.1=some .free))))&&
  (fr.all λ p=>decide (N[p.2]?=some p.1)&&decide ((p.1,NameKind.free)∈scope.names))&&
  (own.all λ x=>decide (scope.names.lookup x=some .local))&&decide ((own++fr.map (·.1)).Nodup)
section
variable {X:Cx} {scope:Scope} {own:List Str} {fr:List (Str × Nat)}
theorem BlkScope.of (h:Dp X.env.scope X.N scope own fr=true):BlkScope X scope own fr:=by
  unfold Dp at h;simp only [Ag9,Aj2,decide_eq_true_iff,Bool.or_eq_true] at h;obtain ⟨⟨⟨⟨h1,h2⟩,h3⟩,h4⟩,h5⟩:=h;exact ⟨h1,λ y hy=>(h2 y hy).1.1,λ y hy e=>(h2 y hy).1.2.resolve_left (λ z=>z e),λ y hy e=>((h2 y hy).2.resolve_left (λ z=>z e)).1,λ p hp=>h3 p hp,λ x hx=>((h2 _ hx).2.resolve_left (λ z=>z rfl)).2⟩
theorem MN (h:Dp X.env.scope X.N scope own fr=true):(∀ x∈own,scope.names.lookup x=some .local)/\(own++fr.map (·.1)).Nodup:=by
  unfold Dp at h;simp only [Ag9,Aj2,decide_eq_true_iff,Bool.or_eq_true] at h;exact ⟨h.1.2,h.2⟩
theorem Dw {i:Nat} {x:Str} {px:Pos} (h:Dp X.env.scope X.N scope own fr=true) (hi:own[i]?=some x) (C:Addr) (ex:List Addr) (s:Shared) (H:Hp):PG (AO X scope own fr C ex s H) (.Name x px) (Ax i):=by
  obtain ⟨h1,h2⟩:=MN h;have hl:(relabel scope X.env).names.lookup x=some .local:=lookup_relabel_local (h1 x (Ad0 hi));have hlt:=(Ab1.mp hi).1;refine Ar h2 ?_ (.inl hl) (.inr hl);show (own++fr.map (·.1))[i]?=some x;rw [Ab5 hlt];exact hi
theorem AK {elt iter:Expr} {x:Str} {px:Pos} {ifs:List Expr} {pos:Pos} {wi:TI} {tc:TT} {te:TE} (hi:PI X (.Name x px) iter wi)
    (ht:∀ C ex s H,PTs (AO X scope [x] (Cd X.N scope) C ex s H) ifs tc) (he:∀ C ex s H,PE (AO X scope [x] (Cd X.N scope) C ex s H) elt te)
    (hb:Dp X.env.scope X.N scope [x] (Cd X.N scope)=true:=by with_unfolding_all rfl) (hc:X.calm=true:=by rfl)
    (hs:∀ x,foldedSetIterable iter X.env x=pure x:=by intro _;rfl):PE X (.ListComp elt [⟨.Name x px,iter,ifs,0⟩] scope pos) (DN wi [x] (Cd X.N scope) (Ax 0) tc te):=
  FP hc (.of hb) hi (λ C ex s H=>Dw hb rfl C ex s H) ht he hs
theorem Do {i:Nat} {y x:Str} {py px spos:Pos} {elt iter:Expr} {ifs:List Expr} {pos:Pos} {wi:TI} {tc:TT} {te:TE} (hN:X.N.Nodup) (hix:X.N[i]?=some y) (hx:Loc X.env.scope y) (hi:PI X (.Name x px) iter wi)
    (ht:∀ C ex s H,PTs (AO X scope [x] (Cd X.N scope) C ex s H) ifs tc) (he:∀ C ex s H,PE (AO X scope [x] (Cd X.N scope) C ex s H) elt te)
    (hb:Dp X.env.scope X.N scope [x] (Cd X.N scope)=true:=by with_unfolding_all rfl) (hc:X.calm=true:=by rfl)
    (hsw:swapsWith (.ListComp elt [⟨.Name x px,iter,ifs,0⟩] scope pos) (some (.Name y py)) spos.line X.env=pure true:=by rfl)
    (hf:X.fn y=true\/X.env.scope.names.lookup y=some .local:=by first | exact .inl rfl | exact .inr rfl | assumption)
    (hs:∀ x,foldedSetIterable iter X.env x=pure x:=by intro _;rfl):
    PS X (.Assign [.Name y py] (.ListComp elt [⟨.Name x px,iter,ifs,0⟩] scope pos) spos) (M5 (DN wi [x] (Cd X.N scope) (Ax 0) tc te) (Ax i)):=
  Pq hN hix hx hc (.of hb) hi (λ C ex s H=>Dw hb rfl C ex s H) ht he hsw hf hs
end
def Rf (K:PySem.W.Frag):List V->Hp->VK->Prop:=λ xs H Q=>∃ x n,xs=[x]/\VO K x H n/\Q (.int n) H
def Vw (K:PySem.W.Frag):List V->Hp->VK->Prop:=λ xs H Q=>∃ (p:Addr) (ns:List Int),xs=[.ref p]/\SqL K H p (ns.map V.int)/\Q (.int ns.sum) H
def Vk (K:PySem.W.Frag):List V->Hp->VK->Prop:=λ xs H Q=>∃ (p:Addr) (bs:List Bool),xs=[.ref p]/\SqL K H p (bs.map V.bl)/\Q (.bl (bs.all id)) H
def QW (K:PySem.W.Frag):List V->Hp->VK->Prop:=λ xs H Q=>∃ x n t b,xs=[x, .ty n]/\TyOf K H x t/\PySem.W.kitOne K t (.type n)=some b/\Q (.bl b) H
def KF (K:PySem.W.Frag):List V->Hp->VK->Prop:=λ xs H Q=>∃ p ys,xs=[.ref p]/\(SqL K H p ys\/SqT K H p ys)/\∀ l,H l=none->Q (.ref l) (upd H l (.lst ys))
def Jr (K:PySem.W.Frag):List V->Hp->VK->Prop:=λ xs H Q=>∃ p ys,xs=[.ref p]/\((SqL K H p ys/\∀ l,H l=none->Q (.ref l) (upd H l (.tup ys)))\/(SqT K H p ys/\Q (.ref p) H))
section
variable {X:Cx} {K:PySem.W.Frag}
theorem Bf (hK:X.K=K:=by rfl):Bh X (.builtin "len") (Rf K):=by subst hK;exact Nn
theorem OL (hK:X.K=K:=by rfl) (hc:X.calm=true:=by rfl):Bh X (.builtin "sum") (Vw K):=by subst hK;exact NG hc
theorem UH (hK:X.K=K:=by rfl) (hc:X.calm=true:=by rfl):Bh X (.builtin "all") (Vk K):=by subst hK;exact Od hc
theorem IL (hK:X.K=K:=by rfl):Bh X (.builtin "isinstance") (QW K):=by subst hK;exact IR
theorem Rj (hK:X.K=K:=by rfl):Bh X (.type "list") (KF K):=by subst hK;exact IH
theorem LQ (hK:X.K=K:=by rfl):Bh X (.type "tuple") (Jr K):=by subst hK;exact Hi
theorem Dj (hK:X.K=K:=by rfl):IxR X (Sz K):=by subst hK;exact Pu
theorem BQ (hK:X.K=K:=by rfl):IxR X (RN K):=by subst hK;exact RJ
theorem KW (hK:X.K=K:=by rfl):OpR X (compareOp .NotIn) (rIn K true):=by subst hK;exact Iu
theorem Lk (hK:X.K=K:=by rfl):OpR X (binaryOp .Add) (NU K):=by subst hK;exact Pd
theorem QQ (hu:X.A.units<cLine) (hK:X.K=K:=by rfl):OpR X (compareOp .Eq) (Mz K false):=by subst hK;exact Ta hu
theorem GF (hu:X.A.units<cLine) (hK:X.K=K:=by rfl):OpR X (compareOp .NotEq) (Mz K true):=by subst hK;exact R5 hu
theorem Nv (hK:X.K=K:=by rfl):SlR X (Sv K):=by subst hK;exact O4
theorem AZ {tg l:Expr} {tl:TE} (hl:PE X l tl) (hK:X.K=K:=by rfl):PI X tg l (NM K tl):=by subst hK;exact OO hl
theorem Uh {tg l:Expr} {tl:TE} (hl:PE X l tl) (hK:X.K=K:=by rfl):PI X tg l (R7 K tl):=by subst hK;exact RY hl
end
section
variable {X:Cx} {pins:List (Addr × Obj)} {σ:St} {H:Hp} {s:Shared} {h':Heap}
theorem Inv.turnedL {t':Nat} (ch:List Addr) (I:Inv X pins σ H s) (hf:∀ b∈ch,Ce X pins H b) (k:∀ b o,b∉ch->s.heap.get? b=some o->h'.get? b=some o):Inv X pins σ H { s with heap:=h',toks:=t' }:=by
  have nit:∀ b u,H b=some u->b∉ch:=λ b u e z=>by rw [(hf b z).1] at e;cases e
  refine I.step (g':=s.gens) (d':=s.drawn) (ch:=ch) (λ b hb=> ?_) (λ b o _ _ hc e _=>k b o hc e) (λ b o _ _ hc e _=>⟨o.slots,k b o hc e⟩) (λ _ _ _ _ n=>n)
    (λ b o hc e=>⟨o,k b o hc e⟩) (λ _ _ e=>e) (λ _ _ _ e=>e) (λ b ps e=>⟨#[],by rw [e];simp⟩) (λ m hm=> ?_) (λ b u e=> ?_) I.bare
  · obtain ⟨f0,f1,f2,f3,f4,f5⟩:=hf b hb;exact ⟨f3,f1,f4,f5⟩
  · obtain ⟨o,es,ep,ho,r⟩:=hm;exact ⟨o,es,ep,k _ o (λ z=>(hf _ z).2.1 rfl) ho,r⟩
  · refine (I.hok b u e).stay (λ c v hc q=>k c v ?_ q) (λ _ q=>q) λ _ _ q=>q;rcases hc with z | z
    · rw [z];exact nit b u e
    · exact nit c _ z
end
def Ite (K:PySem.W.Frag) (a:Addr):It:=
  ⟨λ i H=>∃ xs x,SqL K H a xs/\xs[i]?=some x,λ i H v H'=>∃ p x,H p=none/\v= .ref p/\H'=upd H p (.tup [.int i,x])/\∀ xs,SqL K H a xs->xs[i]?=some x,λ i H=>∃ xs,SqL K H a xs/\xs.length<=i⟩
theorem M6 {X:Cx} {pins:List (Addr × Obj)} {H:Hp} {b p:Addr} {o:HO} (h:Ce X pins H b) (n:b≠p):Ce X pins (upd H p o) b:=⟨by rw [Ak n];exact h.1,h.2⟩
theorem Mj {P:Program} {w:World} {K:PySem.W.Frag} {elts:List Expr} {k:Nat} {pos:Pos} (a e it:Addr) (hne:e≠it):
    Turn P w K (.Tuple elts k pos) (Ite K a) [e,it] e (λ i h=>(∃ old,IsEnum h e it i old)/\h.IsListIter it a i) where
  mem:=by simp
  obj:=λ i h st b hb=>by
    obtain ⟨⟨old,he⟩,o,eo,c,d⟩:=st;rcases Ac2.mp hb with z | z
    · subst z;exact ⟨_,he,λ v z=>by cases (show Data.fields _=Data.cell v from z)⟩
    · have z:b=it:=by simpa using z
      subst z;exact ⟨o,eo,λ v z=>by rw [d] at z;cases z⟩
  keep:=λ i h h' st kp=>by
    obtain ⟨⟨old,he⟩,hi⟩:=st;exact ⟨⟨old,kp e (by simp) _ he⟩,hi.at λ o z=>kp it (by simp) o z⟩
  item:=by
    intro X hP hw hK hc i pins s σ H E I hf st hg;subst hP hw hK;obtain ⟨xs,x,hq,hx⟩:=hg;obtain ⟨its,rv,p,hz⟩:=I.list hq;obtain ⟨u,hu,ru⟩:=rv.get hx;obtain ⟨⟨old,he⟩,hi⟩:=st;have hel:e<s.heap.objs.size:=Aa9 he;have hil:it<s.heap.objs.size:=by obtain ⟨_,z,_⟩:=hi;exact Aa9 z
    refine wpAny_pyNext_enum_item he hi p.isList (x:=u) (by simpa using hu) hne λ h' ho hi' hT hsz hk=> ?_;have I0:=I.laid (h':=s.heap.push { cls:= .type "tuple",data:= .seq #[.int i s.toks,u] }) (a:=s.heap.objs.size) (o:= .tup [.int i,x]) (t':=s.toks+1) (λ _ _ q=>Aa4 _ q) (Aa6 _)
      ⟨(by show 2<=sizeLine;decide),[.int i s.toks,u], .cons ⟨_,rfl⟩ (.cons ru .nil),⟨_,Ab3 _ rfl,rfl,_,rfl⟩⟩
    have f0:∀ b∈[e,it],Ce X pins (upd H s.heap.objs.size (.tup [.int i,x])) b:=λ b hb=>M6 (hf b hb) (by
      rcases Ac2.mp hb with z | z
      · rw [z];exact Ac9 hel
      · rw [show b=it by simpa using z];exact Ac9 hil)
    have I1:=Inv.turnedL (t':=s.toks+1) (h':=h') [e,it] I0 f0 (λ b o hb z=>by
      have hb1:b≠e:=λ q=>hb (by simp [q]);have hb2:b≠it:=λ q=>hb (by simp [q]);rcases Heap.get?_push_cases (show (s.heap.push { cls:= .type "tuple",data:= .seq #[.int i s.toks,u] }).get? b=some o from z) with ⟨q1,q2⟩ | q
      · rw [q1,q2];exact hT
      · exact hk b o hb1 hb2 q)
    refine ⟨.ref s.heap.objs.size,rfl,wpAny_letOwnedTupleGo_enum (s:={ s with heap:=h',toks:=s.toks+1 }) ho λ h2 he2 sb=> ?_⟩;refine ⟨.ref s.heap.objs.size,_,Inv.turnedL (t':=s.toks+1) (h':=h2) [e,it] I1 f0 (λ b o hb z=>(sb.2 b λ q=>hb (by simp [q])).trans z),rfl,⟨_,x,I.fresh,rfl,rfl,λ ys hy=>by rw [I.list_inj hy hq];exact hx⟩,⟨⟨u,by simpa using he2⟩,hi'.at λ o z=>(sb.2 it hne.symm).trans z⟩,λ b hb=>(f0 b hb).1⟩
  done:=by
    intro X hP hw hK hc i pins s σ H E I hf st hg;subst hP hw hK;obtain ⟨xs,hq,hx⟩:=hg;obtain ⟨its,rv,p,hz⟩:=I.list hq;obtain ⟨⟨old,he⟩,hi⟩:=st;have hl:=rv.length;exact wpAny_pyNext_enum_end (I.ok.hd hc) he hi p.isList (by simp;omega) λ h' eb=>⟨rfl,I.turnedL (t':=s.toks) [e,it] hf λ b o hb z=>eb b o (λ q=>hb (by simp [q])) z⟩
  self:=λ _ _ _ _ _ st h=>by
    obtain ⟨⟨old,he⟩,_⟩:=st;exact wpAny_pyIter_enum he h
section
variable {X:Cx} {elts:List Expr} {k:Nat} {tpos:Pos} {K:PySem.W.Frag}
def QV (K:PySem.W.Frag) (ta:TA):TI:=λ σ H R=>ta σ H λ vs H1=>∃ a,vs=[.ref a]/\(∃ xs,SqL K H1 a xs)/\R (Ite K a) H1
theorem HE:bootBuiltins "enumerate"=some (.type "enumerate"):=by decide +kernel
theorem FS {l:Expr} {ta:TA} {p pos:Pos} (hg:Gl X "enumerate") (hm:X.mg "enumerate"=none) (ha:PA X [l] ta) (hK:X.K=K:=by rfl) (hs:starEach [l] X.env=[(false,eval l X.env)]:=by rfl):PI X (.Tuple elts k tpos) (.Call (.Name "enumerate" p) [l] [] pos) (QV K ta):=by
  subst hK;intro pins s σ H R I h;refine Call_ (BX I hg hm HE (PyProof.Rows.callWith_type1 (thn (ha pos pins s σ H _ I h) λ us s1 ⟨vs,H1,I1,r1,q1⟩=> ?_) hs rfl));obtain ⟨a,e,⟨xs,hq⟩,q⟩:=q1;subst e;cases r1 with
  | cons r rr=>
    cases rr;cases r;obtain ⟨its,rv,pl,hz⟩:=I1.list hq;refine call_enumerate_list pl.isList λ h' he hi hsz hk=> ?_;refine wpAny_pyIter_enum he ?_;have I2:=I1.kept (t':=s1.toks) hk;refine ⟨s1.heap.objs.size+1,[s1.heap.objs.size+1,s1.heap.objs.size],_,_,H1,rfl,I2,Mj a _ _ (Nat.succ_ne_self _),⟨⟨_,he⟩,hi⟩,λ b hb=> ?_,q⟩;have hb':s1.heap.objs.size<=b:=by
      rcases Ac2.mp hb with z | z
      · rw [z];exact Nat.le_succ _
      · have z:b=s1.heap.objs.size:=by simpa using z
        rw [z];exact Aa6 _
    exact I1.fpOk hb' (I1.hok.fresh hb')
end
section
variable {X:Cx} {elts:List Expr} {k:Nat} {tpos:Pos} {K:PySem.W.Frag}
end
def Cb (tp:Bool) (h:Heap) (it l:Addr) (i:Nat):Prop:=if tp=true then h.IsTupleIter it l i else h.IsListIter it l i
def Fi (tp:Bool) (h:Heap) (l:Addr) (xs:Array Value):Prop:=if tp=true then h.IsTuple l xs else h.IsList l xs
theorem Ex {tp:Bool} {h h':Heap} {it l:Addr} {i:Nat} (x:Cb tp h it l i) (k:∀ o,h.get? it=some o->h'.get? it=some o):Cb tp h' it l i:=by
  cases tp with
  | false=>obtain ⟨o,e,r⟩:=(show h.IsListIter it l i from x);exact (show h'.IsListIter it l i from ⟨o,k o e,r⟩)
  | true=>obtain ⟨o,e,r⟩:=(show h.IsTupleIter it l i from x);exact (show h'.IsTupleIter it l i from ⟨o,k o e,r⟩)
theorem JE {tp:Bool} {h h':Heap} {l:Addr} {xs:Array Value} (x:Fi tp h l xs) (k:∀ o,h.get? l=some o->h'.get? l=some o):Fi tp h' l xs:=by
  cases tp with
  | false=>obtain ⟨o,e,r⟩:=(show h.IsList l xs from x);exact (show h'.IsList l xs from ⟨o,k o e,r⟩)
  | true=>obtain ⟨o,e,r⟩:=(show h.IsTuple l xs from x);exact (show h'.IsTuple l xs from ⟨o,k o e,r⟩)
theorem DG {tp:Bool} {h:Heap} {it l:Addr} {i:Nat} (x:Cb tp h it l i):∃ o,h.get? it=some o/\o.data= .fields #[.ref l, .int i 0]:=by
  cases tp with
  | false=>obtain ⟨o,e,_,d⟩:=(show h.IsListIter it l i from x);exact ⟨o,e,d⟩
  | true=>obtain ⟨o,e,_,d⟩:=(show h.IsTupleIter it l i from x);exact ⟨o,e,d⟩
theorem Hz {tp:Bool} {h:Heap} {l:Addr} {xs:Array Value} (x:Fi tp h l xs):∃ o n,h.get? l=some o/\o.data= .seq xs n:=by
  cases tp with
  | false=>obtain ⟨o,e,_,n,d⟩:=(show h.IsList l xs from x);exact ⟨o,n,e,d⟩
  | true=>obtain ⟨o,e,_,n,d⟩:=(show h.IsTuple l xs from x);exact ⟨o,n,e,d⟩
section
variable {prog:Program} {w:World} {A:Around} {E:Value->Shared->Prop} {s:Shared}
theorem Ot {tp:Bool} {it l:Addr} {i:Nat} {xs:Array Value} {x:Value} {Q:Value->Shared->Prop} (ht:Cb tp s.heap it l i) (hq:Fi tp s.heap l xs) (hx:xs[i]?=some x)
    (k:∀ h',Cb tp h' it l (i+1)->Heap.SameBut it s.heap h'->Q x { s with heap:=h' }):wpAny (model prog w) A (Builtin.SmallTypes.nextOf (.ref it)) Q E s:=by
  cases tp with
  | false=>exact wpAny_nextOf_list_item (show s.heap.IsListIter it l i from ht) (show s.heap.IsList l xs from hq) hx k
  | true=>
    have ht:s.heap.IsTupleIter it l i:=ht;obtain ⟨ob,eb,cb,db⟩:=id ht;obtain ⟨ol,el,_,nl,dl⟩:=(show s.heap.IsTuple l xs from hq);unfold Builtin.SmallTypes.nextOf;refine Aa3 (Ag7 (name:=Str.ofString "__next__") ht.typeIs F.slot_tuple_iterator_next (Ag1 F.slot_tuple_iterator_next ht.typeIs F.entry_tuple_iterator_next ?_ (F.args_tuple_iterator_next_1 _)));show wpAny _ _ (field (.ref it) 0 >>= _) _ _ s;refine Aa3 (wpAny_field eb db (x:= .ref l) rfl ?_);show wpAny _ _ (if (Value.ref l == Value.none)=true then _ else _) _ _ s;rw [if_neg (show ¬ ((Value.ref l == Value.none)=true) from Ab4)];show wpAny _ _ (field (.ref it) 1 >>= _) _ _ s;refine Aa3 (wpAny_field eb db (x:= .int i 0) rfl ?_);show wpAny _ _ (seqItems? (.ref l) >>= _) _ _ s;refine Aa3 (wpAny_seqItems el dl ?_);simp only [Ab6,hx];refine Aa3 (wpAny_setField eb db (by simp) (Aa7 ⟨x,rfl,Aa7 (k _ ?_ (Heap.SameBut.update ..))⟩));exact (show Heap.IsTupleIter _ it l (i+1) from ⟨_,Ag5 _ eb (Obj.isFreed_of_fields (Obj.data_mapFields db _)),(Obj.cls_mapFields ..).trans cb,by rw [Obj.data_mapFields db];simp [rawInt]⟩)
theorem LN {tp:Bool} {it l:Addr} {i:Nat} {xs:Array Value} {Q:Value->Shared->Prop} (hh:A.handled=none) (ht:Cb tp s.heap it l i) (hq:Fi tp s.heap l xs) (hx:xs[i]?=none)
    (k:∀ h' e,Heap.ExtBut it s.heap h'->(∃ o,h'.get? e=some o/\o.cls= .type "StopIteration")->E (.ref e) { s with heap:=h' }):wpAny (model prog w) A (Builtin.SmallTypes.nextOf (.ref it)) Q E s:=by
  cases tp with
  | false=>exact wpAny_nextOf_list_end hh (show s.heap.IsListIter it l i from ht) (show s.heap.IsList l xs from hq) hx k
  | true=>
    have ht:s.heap.IsTupleIter it l i:=ht;obtain ⟨ob,eb,cb,db⟩:=id ht;obtain ⟨ol,el,_,nl,dl⟩:=(show s.heap.IsTuple l xs from hq);unfold Builtin.SmallTypes.nextOf;refine Aa3 (Ag7 (name:=Str.ofString "__next__") ht.typeIs F.slot_tuple_iterator_next (Ag1 F.slot_tuple_iterator_next ht.typeIs F.entry_tuple_iterator_next ?_ (F.args_tuple_iterator_next_1 _)));show wpAny _ _ (field (.ref it) 0 >>= _) _ _ s;refine Aa3 (wpAny_field eb db (x:= .ref l) rfl ?_);show wpAny _ _ (if (Value.ref l == Value.none)=true then _ else _) _ _ s;rw [if_neg (show ¬ ((Value.ref l == Value.none)=true) from Ab4)];show wpAny _ _ (field (.ref it) 1 >>= _) _ _ s;refine Aa3 (wpAny_field eb db (x:= .int i 0) rfl ?_);show wpAny _ _ (seqItems? (.ref l) >>= _) _ _ s;refine Aa3 (wpAny_seqItems el dl ?_);simp only [Ab6,hx];refine Aa3 (wpAny_rule (Aa3 (wpAny_setField eb db (by simp) ?_)));show wpAny _ _ (newExc (.type "StopIteration") [] >>= _) _ _ _;refine Aa3 ?_;simp only [newExc,newTuple];refine Aa3 (Ag3 ?_ (by size_fits));refine Aa3 (m:=firstArgMember _ _) (wpAny_of_eq (a:=Value.none) (by first | rfl | (simp only [firstArgMember];rfl)) ?_);refine Ag3 ?_ (by size_fits);simp only [raiseNew];refine Aa3 (wpAny_handled ?_)
    first | rw [show A.in1.handled=none from hh] | rw [hh]
    exact Aa3 (Aa7 (wpAny_throw (k _ _ (((Heap.SameBut.update ..).extBut.push _).push _) ⟨_,Ab3 _ rfl,rfl⟩)))
end
section
variable {prog:Program} {w:World} {A:Around} {E:Value->Shared->Prop} {s:Shared}
structure ZipSt (t1 t2:Bool) (h:Heap) (z TI TO i1 i2 l1 l2:Addr) (k:Nat):Prop where
  hz:IsZip h z TI TO .none
  hTI:IsPair h TI (.ref i1) (.ref i2)
  hTO:∃ c d,IsPair h TO c d
  h1:Cb t1 h i1 l1 k
  h2:Cb t2 h i2 l2 k
def NX (tp:Bool):String:=if tp=true then "tuple_iterator" else "list_iterator"
theorem NE {tp:Bool} {l:Addr} {xs:Array Value} {Q:Value->Shared->Prop} (hq:Fi tp s.heap l xs) (k:Q (.ref s.heap.objs.size) { s with heap:=s.heap.push { cls:= .type (NX tp),data:= .fields #[.ref l, .int 0 0] } }):
    wpAny (model prog w) A (pyIter (.ref l)) Q E s:=by
  cases tp with
  | false=>exact wpAny_pyIter_list (show s.heap.IsList l xs from hq) k
  | true=>exact wpAny_pyIter_tuple (show s.heap.IsTuple l xs from hq) k
theorem L8 {tp:Bool} {h:Heap} {l:Addr}:Cb tp (h.push { cls:= .type (NX tp),data:= .fields #[.ref l, .int 0 0] }) h.objs.size l 0:=by
  cases tp with
  | false=>exact (show Heap.IsListIter _ _ l 0 from ⟨_,Ab3 _ rfl,rfl,rfl⟩)
  | true=>exact (show Heap.IsTupleIter _ _ l 0 from ⟨_,Ab3 _ rfl,rfl,rfl⟩)
end
def SqS (tp:Bool) (K:PySem.W.Frag) (H:Hp) (a:Addr) (xs:List V):Prop:=if tp=true then SqT K H a xs else SqL K H a xs
theorem IB {X:Cx} {pins:List (Addr × Obj)} {σ:St} {H:Hp} {s:Shared} {tp:Bool} {a:Addr} {xs:List V} (I:Inv X pins σ H s) (h:SqS tp X.K H a xs):∃ its:List Value,Vals xs its/\Fi tp s.heap a its.toArray:=by
  cases tp with
  | false=>
    obtain ⟨its,r,p,_⟩:=I.list (show SqL X.K H a xs from h);exact ⟨its,r,(show s.heap.IsList a its.toArray from p.isList)⟩
  | true=>
    obtain ⟨its,r,p,_⟩:=I.tuple (show SqT X.K H a xs from h);exact ⟨its,r,(show s.heap.IsTuple a its.toArray from p)⟩
theorem Pl {X:Cx} {pins:List (Addr × Obj)} {σ:St} {H:Hp} {s:Shared} {tp:Bool} {a:Addr} {xs ys:List V} (I:Inv X pins σ H s) (h:SqS tp X.K H a xs) (h2:SqS tp X.K H a ys):xs=ys:=by
  cases tp with
  | false=>exact I.list_inj h h2
  | true=>exact I.tuple_inj h h2
section
variable {X:Cx} {elts:List Expr} {k:Nat} {tpos:Pos} {K:PySem.W.Frag}
end
section
variable {X:Cx} {K:PySem.W.Frag}
theorem Bt:bootBuiltins "list"=some (.type "list"):=by decide +kernel
theorem Fv:bootBuiltins "tuple"=some (.type "tuple"):=by decide +kernel
theorem Bk:bootBuiltins "sorted"=some (.builtin "sorted"):=by decide +kernel
theorem GT {es:List Expr} {k:Nat} {t:TGs} {n:Nat} {pos:Pos} (hc:X.calm=true) (h:PGs X es t) (hK:X.K=K:=by rfl)
    (hn:(assignEach es X.env).length=n:=by rfl) (hst:(assignEach es X.env).findIdx? (·.1)=none:=by rfl):PG X (.Tuple es k pos) (E8 K n t):=by
  subst hK;exact J4 hc h hn hst
variable {scope:Scope} {fr:List (Str × Nat)}
theorem PK {x y:Str} {px py pt:Pos} {k:Nat} (h:Dp X.env.scope X.N scope [x,y] fr=true) (hc:X.calm=true) (C:Addr) (ex:List Addr) (s:Shared) (H:Hp) (hK:X.K=K:=by rfl):
    PG (AO X scope [x,y] fr C ex s H) (.Tuple [.Name x px, .Name y py] k pt) (E8 K 2 (A0 (Ax 0) (A0 (Ax 1) FC))):=by
  subst hK;exact J4 (X:=AO X scope [x,y] fr C ex s H) hc (AD (Dw h rfl C ex s H) (AD (Dw h rfl C ex s H) CU))
theorem EJ {elt iter:Expr} {x y:Str} {px py pt:Pos} {k:Nat} {ifs:List Expr} {pos:Pos} {wi:TI} {tc:TT} {te:TE} (hi:PI X (.Tuple [.Name x px, .Name y py] k pt) iter wi)
    (ht:∀ C ex s H,PTs (AO X scope [x,y] (Cd X.N scope) C ex s H) ifs tc) (he:∀ C ex s H,PE (AO X scope [x,y] (Cd X.N scope) C ex s H) elt te) (hK:X.K=K:=by rfl)
    (hb:Dp X.env.scope X.N scope [x,y] (Cd X.N scope)=true:=by with_unfolding_all rfl) (hc:X.calm=true:=by rfl)
    (hs:∀ x,foldedSetIterable iter X.env x=pure x:=by intro _;rfl):PE X (.ListComp elt [⟨.Tuple [.Name x px, .Name y py] k pt,iter,ifs,0⟩] scope pos) (DN wi [x,y] (Cd X.N scope) (E8 K 2 (A0 (Ax 0) (A0 (Ax 1) FC))) tc te):=
  FP hc (.of hb) hi (λ C ex s H=>PK hb hc C ex s H hK) ht he hs
end
section
variable {K:PySem.W.Frag} {D:Addr} {σ0:St} {tc:TT} {te:TE} {Q:VK} {H:Hp}
end
inductive Dt where
  | non | bl (b:Bool) | int (i:Int) | str (z:Str) | lst (xs:List Dt) | tup (xs:List Dt)
inductive Rp (H:Hp) (F:Addr->Prop):Nat->V->Dt->Prop where
  | non {n:Nat}:Rp H F n .non .non
  | bl {n:Nat} (b:Bool):Rp H F n (.bl b) (.bl b)
  | int {n:Nat} (i:Int):Rp H F n (.int i) (.int i)
  | str {n:Nat} (z:Str):Rp H F n (.str z) (.str z)
  | lst {n:Nat} {a:Addr} {vs:List V} {ds:List Dt} (h:H a=some (.lst vs)) (f:F a) (b:vs.length<=100000) (l:vs.length=ds.length) (e:∀ (i:Nat) (v:V) (d:Dt),vs[i]?=some v->ds[i]?=some d->Rp H F n v d):Rp H F (n+1) (.ref a) (.lst ds)
  | tup {n:Nat} {a:Addr} {vs:List V} {ds:List Dt} (h:H a=some (.tup vs)) (b:vs.length<=100000) (l:vs.length=ds.length) (e:∀ (i:Nat) (v:V) (d:Dt),vs[i]?=some v->ds[i]?=some d->Rp H F n v d):Rp H F (n+1) (.ref a) (.tup ds)
theorem Rp.mono {H H':Hp} {F F':Addr->Prop} {n:Nat} {v:V} {d:Dt} (r:Rp H F n v d) (k:∀ a o,H a=some o->(∀ xs,o= .lst xs->F a)->H' a=some o) (f:∀ a,F a->F' a):Rp H' F' n v d:=by
  induction r with
  | non=>exact .non
  | bl b=>exact .bl b
  | int i=>exact .int i
  | str z=>exact .str z
  | lst h p b l e ih=>exact .lst (k _ _ h λ _ _=>p) (f _ p) b l λ i v d h1 h2=>ih i v d h1 h2
  | tup h b l e ih=>exact .tup (k _ _ h λ xs q=>by cases q) b l λ i v d h1 h2=>ih i v d h1 h2
theorem Rp.same {H H':Hp} {F:Addr->Prop} {n:Nat} {v:V} {d:Dt} (r:Rp H F n v d) (s:Same H H'):Rp H' F n v d:=r.mono (λ a o h _=>s a o h) λ _ h=>h
theorem Rp.imp {H:Hp} {F F':Addr->Prop} {n:Nat} {v:V} {d:Dt} (r:Rp H F n v d) (f:∀ a,F a->F' a):Rp H F' n v d:=r.mono (λ a o h _=>h) f
abbrev FT:Addr->Prop:=λ _=>True
abbrev FN (H:Hp):Addr->Prop:=λ a=>H a=none
theorem Rp.any {H:Hp} {F:Addr->Prop} {n:Nat} {v:V} {d:Dt} (r:Rp H F n v d):Rp H FT n v d:=r.imp λ _ _=>trivial
theorem Rp.upd {H:Hp} {F:Addr->Prop} {n:Nat} {v:V} {d:Dt} {p:Addr} {o:HO} (r:Rp H F n v d) (h:∀ xs,H p=some (.lst xs)->¬ F p) (h2:∀ xs,H p≠some (.tup xs)) (h3:∀ o,H p=some o->(∃ xs,o= .lst xs)\/∃ xs,o= .tup xs):Rp (upd H p o) F n v d:=by
  refine r.mono (λ a u e q=> ?_) λ _ h=>h;have n:a≠p:=λ z=>by
    subst z;rcases h3 u e with ⟨xs,rfl⟩ | ⟨xs,rfl⟩
    · exact h xs e (q xs rfl)
    · exact h2 xs e
  rw [Ak n];exact e
def LJ (ns:List Int):Dt:= .lst (ns.map .int)
theorem Qa {H:Hp} {F:Addr->Prop} {n:Nat} {a:Addr} {ns:List Int} (h:H a=some (.lst (ns.map V.int))) (f:F a) (b:ns.length<=100000):Rp H F (n+1) (.ref a) (LJ ns):=by
  refine .lst h f (by simpa using b) (by simp) λ i v d h1 h2=> ?_;rw [Aa8] at h1 h2;cases e:ns[i]? with
  | none=>rw [e] at h1;cases h1
  | some k=>rw [e] at h1 h2;cases h1;cases h2;exact .int k
theorem KQ {H:Hp} {F:Addr->Prop} {n:Nat} {v:V} {ns:List Int} (r:Rp H F n v (LJ ns)):∃ a,v= .ref a/\H a=some (.lst (ns.map V.int))/\F a:=by
  unfold LJ at r;cases r with
  | @lst n a vs _ h f b l e=>
    refine ⟨a,rfl,?_,f⟩;rw [h];congr 2;refine Ag0 (by simpa using l) λ i h1 h2=> ?_;have h2':i<ns.length:=by simpa using h2
    have:=e i vs[i] (.int ns[i]) (by simp [h1]) (by simp [h2']);cases hv:vs[i] <;> rw [hv] at this <;> cases this;simp
section
variable {t u:TS} {D:Ends} {σ:St} {H:Hp} {te ta tb tk:TE} {tt tu:TT} {g:TG} {Q:VK} {QT:Bool->Hp->Prop} {QA:List V->Hp->Prop} {i:Nat} {v x y:V} {r:R2} {tr:TA} {K:PySem.W.Frag}
theorem RP (h:t { D with nx:=u D } σ H):Tu t u D σ H:=h
theorem Qh (h:D.nx σ H):Q2 D σ H:=h
theorem SQ (h:te σ H λ x H1=>g x σ H1 D.nx):M5 te g D σ H:=h
theorem OX {QS:St->Hp->Prop} (h:QS (σ.set i (some v)) H):Ax i v σ H QS:=h
theorem Sy (e:σ[i]?=some (some v)) (h:Q v H):SL i σ H Q:=⟨v,e,h⟩
theorem Xl (h:Q v H):tC v σ H Q:=h
theorem Ux (h:ta σ H λ x H1=>tb σ H1 λ y H2=>r x y H2 Q):tOp r ta tb σ H Q:=h
theorem WV {ru:V->Hp->VK->Prop} (h:ta σ H λ x H1=>ru x H1 Q):tUn ru ta σ H Q:=h
theorem Az {C:Int->Int->Prop} {gg:Int->Int->V} {a b:Int} (c:C a b) (h:Q (gg a b) H):rI C gg (.int a) (.int b) H Q:=⟨a,b,rfl,rfl,c,h⟩
theorem RD {gg:Int->Int->V} {a b:Int} (h:Q (gg a b) H):rI0 gg (.int a) (.int b) H Q:=⟨a,b,rfl,rfl,h⟩
theorem Uz {gg:Int->V} {a:Int} (h:Q (gg a) H):rU gg (.int a) H Q:=⟨a,rfl,h⟩
theorem SU {a b:Int} (h:Q (.bl (decide (a=b))) H):rEq (.int a) (.int b) H Q:=⟨rfl,by rw [show decide (V.int a=V.int b)=decide (a=b) by rw [Ae2];simp];exact h⟩
theorem Q9 {a b:Int} (h:Q (.bl (!decide (a=b))) H):rNe (.int a) (.int b) H Q:=⟨rfl,by rw [show decide (V.int a=V.int b)=decide (a=b) by rw [Ae2];simp];exact h⟩
theorem RU {a b:Str} (h:Q (.bl (decide (a=b))) H):rEq (.str a) (.str b) H Q:=⟨rfl,by rw [show decide (V.str a=V.str b)=decide (a=b) by rw [Ae2];simp];exact h⟩
theorem RF {a b:Bool} (h:Q (.bl (decide (a=b))) H):rEq (.bl a) (.bl b) H Q:=⟨rfl,by rw [show decide (V.bl a=V.bl b)=decide (a=b) by rw [Ae2];simp];exact h⟩
theorem RG {a b:Bool} (h:Q (.bl (!decide (a=b))) H):rNe (.bl a) (.bl b) H Q:=⟨rfl,by rw [show decide (V.bl a=V.bl b)=decide (a=b) by rw [Ae2];simp];exact h⟩
theorem Ss (h:tt σ H λ c H1=>QT (!c) H1):Ug tt σ H QT:=h
theorem PJ (h:te σ H λ x H'=>∃ k,x= .bl k/\QT k H'):Qs te σ H QT:=h
theorem VZ (h:te σ H λ x H'=>∃ k,x= .bl k/\QT k H'):tB te σ H QT:=h
theorem T8 {b:Bool} {R:Bool->Prop} (h:R b):∃ k,V.bl b= .bl k/\R k:=⟨b,rfl,h⟩
theorem VG (h:tt σ H λ c H1=>if c=true then QT true H1 else tu σ H1 QT):tOr tt tu σ H QT:=h
theorem Sm (h:tt σ H λ c H1=>if c=true then tu σ H1 QT else QT false H1):Uq tt tu σ H QT:=h
theorem PB (h:ta σ H λ x H1=>∃ c,x= .bl c/\if c=true then tb σ H1 Q else Q (.bl false) H1):Q3 ta tb σ H Q:=h
theorem Pb (h:ta σ H λ x H1=>∃ c,x= .bl c/\Q (.bl (!c)) H1):QU ta σ H Q:=h
theorem Rn (h:tt σ H λ b H1=>if b=true then t D σ H1 else u D σ H1):TQ tt t u D σ H:=h
theorem Vs (h:tt σ H λ c H1=>if c=true then ta σ H1 Q else tb σ H1 Q):tIf tt ta tb σ H Q:=h
theorem S4 (h:te σ H D.rt):W0 te D σ H:=h
theorem P4 (h:te σ H λ _ H1=>D.nx σ H1):Q6 te D σ H:=h
theorem Rb (h:QA [] H):Ps σ H QA:=h
theorem P2 (h:te σ H λ x H1=>tr σ H1 λ xs H2=>QA (x::xs) H2):Qp te tr σ H QA:=h
theorem Rh (h:tr σ H λ xs H1=>xs.length<=sizeLine/\∀ p,H1 p=none->Q (.ref p) (upd H1 p (.lst xs))):Tx tr σ H Q:=h
theorem SA (h:tr σ H λ xs H1=>xs.length<=sizeLine/\∀ p,H1 p=none->Q (.ref p) (upd H1 p (.tup xs))):V5 tr σ H Q:=h
theorem Vp {rr:List V->Hp->VK->Prop} (h:tr σ H λ vs H1=>rr vs H1 Q):tCB rr tr σ H Q:=h
theorem P9 {sp:Sp} {E:XK} (h:tr σ H λ vs H1=>sp vs H1 Q E):Lb sp [] E tr σ H Q:=by
  unfold Lb;simpa using h
theorem VD {rs:V->Option Int->Option Int->Hp->VK->Prop} {tl th:TO} (h:te σ H λ x H1=>tl σ H1 λ l H2=>th σ H2 λ u H3=>rs x l u H3 Q):tSl rs te tl th σ H Q:=h
theorem Qe {QO:Option Int->Hp->Prop} (h:te σ H λ x H1=>∃ i,x= .int i/\QO (some i) H1):QC te σ H QO:=h
theorem LT {QO:Option Int->Hp->Prop} (h:QO none H):K4 σ H QO:=h
theorem S7 {a:Int} {R:Int->Prop} (h:R a):∃ k,V.int a= .int k/\R k:=⟨a,rfl,h⟩
theorem J5 {p:Addr} {xs:List V} {lo hi:Option Int} (c:SqL K H p xs) (h:∀ q,H q=none->Q (.ref q) (upd H q (.lst (GC xs lo hi)))):Sv K (.ref p) lo hi H Q:=⟨p,xs,rfl,c,h⟩
theorem AN {p:Addr} {xs:List V} (c:SqL K H p xs) (h:Q (.int xs.length) H):Rf K [.ref p] H Q:=⟨_,_,rfl, .inl ⟨xs,c,rfl⟩,h⟩
theorem Lo {p:Addr} {xs:List V} (c:SqT K H p xs) (h:Q (.int xs.length) H):Rf K [.ref p] H Q:=⟨_,_,rfl, .inr ⟨xs,c,rfl⟩,h⟩
theorem KC {p:Addr} {ns:List Int} (c:SqL K H p (ns.map V.int)) (h:Q (.int ns.sum) H):Vw K [.ref p] H Q:=⟨p,ns,rfl,c,h⟩
theorem Rw {p:Addr} {bs:List Bool} (c:SqL K H p (bs.map V.bl)) (h:Q (.bl (bs.all id)) H):Vk K [.ref p] H Q:=⟨p,bs,rfl,c,h⟩
theorem FX {n:String} {ty:Value} {b:Bool} (c:TyOf K H x ty) (e:PySem.W.kitOne K ty (.type n)=some b) (h:Q (.bl b) H):QW K [x, .ty n] H Q:=⟨x,n,ty,b,rfl,c,e,h⟩
theorem BK {p:Addr} {xs:List V} {k:Int} (c:SqL K H p xs) (e:atI xs k=some v) (h:Q v H):Sz K (.ref p) (.int k) H Q:=⟨p,xs,k,v,rfl,rfl,c,e,h⟩
theorem Bd {p:Addr} {xs:List V} {k:Int} (c:SqT K H p xs) (e:atI xs k=some v) (h:Q v H):RN K (.ref p) (.int k) H Q:=⟨p,xs,k,v,rfl,rfl,c,e,h⟩
theorem Rr {xs:List V} {B:Prop} (c:xs.length<=1000) (h:B):xs.length<=sizeLine/\B:=⟨Ae0 c (by decide),h⟩
end
theorem IA {p A B:Prop} [Decidable p] (h1:p->A) (h2:¬ p->B):if decide p=true then A else B:=by
  by_cases h:p
  · rw [if_pos (decide_eq_true h)];exact h1 h
  · rw [if_neg (λ q=>h (of_decide_eq_true q))];exact h2 h
theorem MV {p A B:Prop} [Decidable p] (h1:¬ p->A) (h2:p->B):if (!decide p)=true then A else B:=by
  by_cases h:p
  · rw [decide_eq_true h];exact Gg (h2 h)
  · rw [decide_eq_false h];exact Gy (h1 h)
def tyD:Dt->String | .non=>"NoneType" | .bl _=>"bool" | .int _=>"int" | .str _=>"str" | .lst _=>"list" | .tup _=>"tuple"
def Fy:Dt->Bool | .lst _=>true | _=>false
def Fl:Dt->Bool | .tup _=>true | _=>false
theorem L4:Kq "NoneType" "list"=some false/\Kq "bool" "list"=some false/\Kq "int" "list"=some false/\Kq "str" "list"=some false/\Kq "list" "list"=some true/\Kq "tuple" "list"=some false:=by decide +kernel
theorem Qd {K:PySem.W.Frag} (d:Dt):PySem.W.kitOne K (.type (tyD d)) (.type "list")=some (Fy d):=by
  obtain ⟨h1,h2,h3,h4,h5,h6⟩:=L4;cases d with
  | non=>exact kb h1
  | bl _=>exact kb h2
  | int _=>exact kb h3
  | str _=>exact kb h4
  | lst _=>exact kb h5
  | tup _=>exact kb h6
def Og:Dt->List Dt | .lst ds=>ds | .tup ds=>ds | _=>[]
theorem Rp.seq {K:PySem.W.Frag} {H:Hp} {F:Addr->Prop} {n:Nat} {v:V} {d:Dt} (r:Rp H F n v d) (h:(Fy d||Fl d)=true):
    ∃ m a vs,n=m+1/\v= .ref a/\SqS (Fl d) K H a vs/\vs.length=(Og d).length/\vs.length<=100000/\∀ (i:Nat) (x:V) (e:Dt),vs[i]?=some x->(Og d)[i]?=some e->Rp H F m x e:=by
  cases r with
  | @lst m a vs ds q f b l e=>exact ⟨m,a,vs,rfl,rfl,(show SqL K H a vs from SqL.of q),l,b,e⟩
  | @tup m a vs ds q b l e=>exact ⟨m,a,vs,rfl,rfl,(show SqT K H a vs from SqT.of q),l,b,e⟩
  | non=>cases h
  | bl _=>cases h
  | int _=>cases h
  | str _=>cases h
theorem SqS.same {K:PySem.W.Frag} {H H':Hp} {tp:Bool} {p:Addr} {xs:List V} (c:SqS tp K H p xs) (s:Same H H'):SqS tp K H' p xs:=by
  cases tp with
  | false=>exact (show SqL K H' p xs from s.seq c)
  | true=>
    rcases (show SqT K H p xs from c) with (q | ⟨o,q⟩) | q
    · exact (show SqT K H' p xs from .inl (.inl (s _ _ q)))
    · exact (show SqT K H' p xs from .inl (.inr ⟨o,s _ _ q⟩))
    · exact (show SqT K H' p xs from .inr q)
theorem Af {H:Hp} {p:Addr} {o:HO} (h:H p=none):Same H (upd H p o):=λ b u e=>by rw [Ak (Ap e h)];exact e
theorem Bc {H H':Hp} {D:Addr} {o:HO} (s:Same H H') (h:H D=none):Same H (upd H' D o):=λ b u e=>by rw [Ak (Ap e h)];exact s b u e
structure SrcOk (J:It) (g:TG) (σ0:St) (H:Hp) (n:Nat) (st:Nat->St):Prop where
  go:∀ i H',i<n->Same H H'->J.go i H'
  stop:∀ H',Same H H'->J.stop n H'
  yld:∀ i H' x H'' (R:St->Hp->Prop),i<n->Same H H'->J.yld i H' x H''->(∀ H3,Same H' H3->R (st i) H3)->g x σ0 H'' R
  kp:∀ i,i<n->Kp σ0 (st i)
section
variable {J:It} {g:TG} {σ0:St} {H:Hp} {n:Nat} {st:Nat->St} {tc:TT} {te:TE} {Q:VK} {D:Addr}
theorem Rp.off {H:Hp} {F:Addr->Prop} {m:Nat} {v:V} {d:Dt} {D:Addr} {xs:List V} {o:HO} (r:Rp H F m v d) (hD:H D=some (.lst xs)) (hF:¬ F D):Rp (L2.upd H D o) F m v d:=by
  refine r.mono (λ a u e q=> ?_) λ _ h=>h;have n:a≠D:=λ z=>by
    subst z;rw [hD] at e;cases e;exact hF (q _ rfl)
  rw [Ak n];exact e
theorem E2 {m:Nat} {p:Nat->Bool} {G:Nat->Dt} (S:SrcOk J g σ0 H n st) (hD:H D=none) (hn:n<=100000)
    (ht:∀ i H' (R:Bool->Hp->Prop),i<n->Same H H'->(∀ H3,Same H' H3->R (p i) H3)->tc (st i) H' R)
    (he:∀ i H' (R:VK),i<n->p i=true->Same H H'->(∀ H3 y,Same H' H3->Rp H3 (FN H') m y (G i)->R y H3)->te (st i) H' R)
    (hd:∀ H' ys,Same H H'->H' D=some (.lst ys)->Rp H' (FN H) (m+1) (.ref D) (.lst (((Aa5 n).filter p).map G))->Q (.ref D) H'):
    DK J σ0 g tc te Q H D:=by
  refine ⟨λ i k ys H'=>k=n - i/\i<=n/\Same H H'/\H' D=some (.lst ys)/\ys.length=(((Aa5 i).filter p).map G).length/\∀ (j:Nat) (y:V) (d:Dt),ys[j]?=some y->(((Aa5 i).filter p).map G)[j]?=some d->Rp H' (λ a=>H a=none/\a≠D) m y d,
    ⟨_,rfl,Ad3 _,Bc (Same.refl _) hD,Ac,rfl,λ j y d q=>by simp at q⟩,?_⟩
  rintro i k ys H1 ⟨rfl,hi,s1,hl,len,el⟩;have bnd:∀ i,(((Aa5 i).filter p).map G).length<=i:=λ i=>by
    rw [Aa2];exact Ae0 (List.length_filter_le _ _) (by simp)
  by_cases hlt:i<n
  · refine .inr ⟨S.go i H1 hlt s1,λ ys' H'=>Same H H'/\H' D=some (.lst ys')/\ys'.length=(((Aa5 (i+1)).filter p).map G).length/\∀ (j:Nat) (y:V) (d:Dt),ys'[j]?=some y->(((Aa5 (i+1)).filter p).map G)[j]?=some d->Rp H' (λ a=>H a=none/\a≠D) m y d,
      λ ys' H' q=>⟨n - (i+1),by omega,rfl,hlt,q⟩,λ x H2 y=> ?_⟩
    refine S.yld i H1 x H2 _ hlt s1 y λ H3 s3=>⟨S.kp i hlt,?_⟩;refine ht i H3 _ hlt (s1.trans s3) λ H4 s4=> ?_;have hl4:H4 D=some (.lst ys):=s4 _ _ (s3 _ _ hl);have s14:Same H H4:=s1.trans (s3.trans s4);cases hp:p i with
    | false=>
      refine Gg ⟨s14,hl4,?_,?_⟩
      · rw [Ai9,Ad6,Ae4,hp];simpa using len
      · intro j y d h1 h2;have e:((Aa5 (i+1)).filter p).map G=((Aa5 i).filter p).map G:=by
          rw [Ai9,Ad6,Ae4,hp];simp
        rw [e] at h2;exact (el j y d h1 h2).same (s3.trans s4)
    | true=>
      refine Gy ?_;refine he i H4 _ hlt hp s14 λ H5 y s5 ry=> ?_;have hl5:H5 D=some (.lst ys):=s5 _ _ hl4;have e:((Aa5 (i+1)).filter p).map G=((Aa5 i).filter p).map G++[G i]:=by
        rw [Ai9,Ad6,Ae4,hp];simp
      refine ⟨hl5,?_,?_,Ac,?_,?_⟩
      · have:=bnd i;exact Ae8 (by omega:ys.length<=100000) (by decide)
      · exact Bc (s14.trans s5) hD
      · rw [e,Ab0,Ab0,len];rfl
      · intro j z d h1 h2;rw [e] at h2;have nF:¬ (H D=none/\D≠D):=λ q=>q.2 rfl;by_cases hj:j<ys.length
        · rw [Ab5 hj] at h1;rw [Ab5 (by omega)] at h2;exact ((el j z d h1 h2).same (s3.trans (s4.trans s5))).off hl5 nF
        · have ej:j=ys.length:=by
            have:=(Ab1.mp h1).1;rw [Ab0] at this;have:([y]:List V).length=1:=rfl;omega
          subst ej;rw [Ac6 (Aa6 _),Nat.sub_self] at h1;rw [len,Ac6 (Aa6 _),Nat.sub_self] at h2;cases h1;cases h2;refine (ry.imp (F':=λ a=>H a=none/\a≠D) λ a ha=>⟨s14.free ha,λ q=> ?_⟩).off hl5 nF;subst q;rw [show H4 a=none from ha] at hl4;cases hl4
  · have e:i=n:=by omega
    subst e;refine .inl ⟨S.stop H1 s1,hd H1 ys s1 hl (.lst hl hD ?_ len λ j y d h1 h2=>(el j y d h1 h2).imp λ a q=>q.1)⟩;have:=bnd i;omega
theorem BZ {m:Nat} {G:Nat->Dt} (S:SrcOk J g σ0 H n st) (hD:H D=none) (hn:n<=100000)
    (he:∀ i H' (R:VK),i<n->Same H H'->(∀ H3 y,Same H' H3->Rp H3 (FN H') m y (G i)->R y H3)->te (st i) H' R)
    (hd:∀ H' ys,Same H H'->H' D=some (.lst ys)->Rp H' (FN H) (m+1) (.ref D) (.lst ((Aa5 n).map G))->Q (.ref D) H'):
    DK J σ0 g LX te Q H D:=by
  refine E2 (p:=λ _=>true) (m:=m) (G:=G) S hD hn (λ i H' R _ _ k=>k H' (Same.refl _)) (λ i H' R hi _ s k=>he i H' R hi s k) λ H' ys s hl r=>hd H' ys s hl ?_;have e:(Aa5 n).filter (λ _=>true)=Aa5 n:=by simp
  rw [e] at r;exact r
variable {K:PySem.W.Frag} {a b:Addr} {xs zs:List V}
theorem AM (h:SqL K H a xs) (h0:σ0[0]?=some none):SrcOk (Itl K a) (Ax 0) σ0 H xs.length (λ i=>σ0.set 0 (some (xs.getD i .non))) where
  go:=λ i H' hi s=>⟨xs,xs[i],s.seq h,by simp [hi]⟩
  stop:=λ H' s=>⟨xs,s.seq h,Aa6 _⟩
  yld:=λ i H' x H'' R hi s y k=>by
    obtain ⟨e,hv⟩:=y;subst e;have e:x=xs.getD i .non:=by
      have:=hv xs (s.seq h);rw [Aa0,this];rfl
    subst e;exact k _ (Same.refl _)
  kp:=λ i hi=>(Kp.refl _).set h0
theorem O3 (h:SqT K H a xs) (h0:σ0[0]?=some none):SrcOk (Itt K a) (Ax 0) σ0 H xs.length (λ i=>σ0.set 0 (some (xs.getD i .non))) where
  go:=λ i H' hi s=>⟨xs,xs[i],(SqS.same (tp:=true) h s),by simp [hi]⟩
  stop:=λ H' s=>⟨xs,(SqS.same (tp:=true) h s),Aa6 _⟩
  yld:=λ i H' x H'' R hi s y k=>by
    obtain ⟨e,hv⟩:=y;subst e;have e:x=xs.getD i .non:=by
      have:=hv xs (SqS.same (tp:=true) h s);rw [Aa0,this];rfl
    subst e;exact k _ (Same.refl _)
  kp:=λ i hi=>(Kp.refl _).set h0
theorem HU {lo:Int} {n:Nat} (h0:σ0[0]?=some none):SrcOk (Itr lo n) (Ax 0) σ0 H n (λ i=>σ0.set 0 (some (.int (lo+i)))) where
  go:=λ i H' hi s=>hi
  stop:=λ H' s=>Aa6 _
  yld:=λ i H' x H'' R hi s y k=>by
    obtain ⟨e,hv⟩:=y;subst e hv;exact k _ (Same.refl _)
  kp:=λ i hi=>(Kp.refl _).set h0
theorem JR (h:SqL K H a xs) (h0:σ0[0]?=some none) (h1:σ0[1]?=some none):SrcOk (Ite K a) (E8 K 2 (A0 (Ax 0) (A0 (Ax 1) FC))) σ0 H xs.length (λ i=>(σ0.set 0 (some (.int i))).set 1 (some (xs.getD i .non))) where
  go:=λ i H' hi s=>⟨xs,xs[i],s.seq h,by simp [hi]⟩
  stop:=λ H' s=>⟨xs,s.seq h,Aa6 _⟩
  yld:=λ i H' x H'' R hi s y k=>by
    obtain ⟨p,v,hp,rfl,rfl,hv⟩:=y;have e:v=xs.getD i .non:=by
      have:=hv xs (s.seq h);rw [Aa0,this];rfl
    subst e;exact ⟨p,_,rfl,SqT.of Ac,rfl,_,_,rfl,_,_,rfl,rfl,k _ (Af hp)⟩
  kp:=λ i hi=>((Kp.refl _).set h0).set h1
end
theorem AL {α β:Type} (f:α->β) (xs:List α) (d:α):(Aa5 xs.length).map (λ i=>f (xs.getD i d))=xs.map f:=by
  refine Ag0 (by simp) λ i h1 h2=> ?_;have hi:i<xs.length:=by simpa using h2
  simp [Aa0,hi]
theorem T6 (a b c:Int) (hc:c≠0):0<=Builtin.Range.rangeSize a b c/\Builtin.Range.rangeSize a b c<=(b - a).natAbs:=by
  unfold Builtin.Range.rangeSize;split
  · rename_i h
    split
    · rename_i h2
      have h3:0<=(b - a - 1) / c:=Int.ediv_nonneg (by omega) (by omega);have h4:(b - a - 1) / c<=b - a - 1:=Int.ediv_le_self _ (by omega);omega
    · omega
  · rename_i h
    split
    · rename_i h2
      have h3:0<=(a - b - 1) / (-c):=Int.ediv_nonneg (by omega) (by omega);have h4:(a - b - 1) / (-c)<=a - b - 1:=Int.ediv_le_self _ (by omega);omega
    · omega
theorem OS {a b c:Int} (ha: -(2 ^ 40)<=a/\a<2 ^ 40) (hb: -(2 ^ 40)<=b/\b<2 ^ 40) (hc: -(2 ^ 20)<=c/\c<2 ^ 20) (h0:c≠0):Builtin.Range.small a b c=true:=by
  have h:=T6 a b c h0;unfold Builtin.Range.small;simp only [Builtin.Range.rangeFitsLong,Ag9,Bool.or_eq_true,decide_eq_true_eq,beq_iff_eq];generalize Builtin.Range.rangeSize a b c=n at h;have hn:(b - a).natAbs<2 ^ 42:=by omega
  refine ⟨⟨⟨⟨by omega,by omega⟩,by omega⟩,by omega⟩, .inr ?_⟩;split <;> rw [Ag9,decide_eq_true_eq,decide_eq_true_eq] <;> omega
section
variable {X:Cx} {tg:Expr}
end
section
variable {X:Cx} {K:PySem.W.Frag} {e st:Expr} {te ts:TE} {pos p2:Pos}
end
end L2
namespace MM
theorem snoc_ind {α:Type} {p:List α->Prop} (h0:p []) (h1:∀ l a,p l->p (l++[a])):∀ l,p l:=λ l=>by
  have h:∀ r:List α,p r.reverse:=λ r=>by
    induction r with
    | nil=>exact h0
    | cons a r ih=>rw [List.reverse_cons];exact h1 _ _ ih
  have:=h l.reverse
  rwa [List.reverse_reverse] at this
theorem or_add_and (a:Nat):∀ b:Nat,(a ||| b)+(a &&& b)=a+b:=by
  induction a using Nat.strongRecOn with
  | ind a ih=>
    intro b;by_cases h:a=0
    · subst h;simp
    · have ih':=ih (a / 2) (by omega) (b / 2);have e1:(a ||| b)=2*((a ||| b) / 2)+(a ||| b)%2:=by omega
      have e2:(a &&& b)=2*((a &&& b) / 2)+(a &&& b)%2:=by omega
      have d1:(a ||| b) / 2=a / 2 ||| b / 2:=by simpa using Nat.or_div_two (a:=a) (b:=b)
      have d2:(a &&& b) / 2=a / 2 &&& b / 2:=by simpa using Nat.and_div_two (a:=a) (b:=b)
      have m1:(a ||| b)%2+(a &&& b)%2=a%2+b%2:=by
        have z:∀ x:Nat,x%2=(x.testBit 0).toNat:=λ x=>by rw [Nat.toNat_testBit];simp
        rw [z (a ||| b),z (a &&& b),z a,z b,Nat.testBit_or,Nat.testBit_and];cases a.testBit 0 <;> cases b.testBit 0 <;> rfl
      rw [d1] at e1;rw [d2] at e2;omega
theorem xor_eq (a b:Nat):(a ^^^ b)+(a &&& b)=(a ||| b):=by
  have h1:=or_add_and (a ^^^ b) (a &&& b);have e1:((a ^^^ b) ||| (a &&& b))=(a ||| b):=by
    refine Aj4 λ i=> ?_;simp only [Nat.testBit_or,Nat.testBit_xor,Nat.testBit_and];cases a.testBit i <;> cases b.testBit i <;> rfl
  have e2:((a ^^^ b) &&& (a &&& b))=0:=by
    refine Aj4 λ i=> ?_;simp only [Nat.testBit_and,Nat.testBit_xor,Nat.zero_testBit];cases a.testBit i <;> cases b.testBit i <;> rfl
  rw [e1,e2] at h1;omega
def ofB (f:Nat->Bool):Nat->Nat
  | 0=>0
  | w+1=>ofB f w+(f w).toNat*2 ^ w
theorem ofB_lt (f:Nat->Bool):∀ w,ofB f w<2 ^ w
  | 0=>by simp [ofB]
  | w+1=>by
    have:=ofB_lt f w;unfold ofB;rw [Nat.pow_succ];cases f w <;> simp <;> omega
theorem ofB_bit (f:Nat->Bool):∀ w i,(ofB f w).testBit i=(decide (i<w)&&f i)
  | 0,i=>by simp [ofB]
  | w+1,i=>by
    have hl:=ofB_lt f w;unfold ofB;have e:ofB f w+(f w).toNat*2 ^ w=2 ^ w*(f w).toNat+ofB f w:=by rw [Nat.mul_comm];omega
    rw [e,Nat.testBit_two_pow_mul_add _ hl];by_cases h:i<w
    · rw [if_pos h,ofB_bit f w i];simp [h,Nat.lt_succ_of_lt h]
    · rw [if_neg h];by_cases h2:i=w
      · subst h2;cases f i <;> simp
      · have h3:¬ i<w+1:=by omega
        have h4:i - w≠0:=by omega
        have h5:(1:Nat).testBit (i - w)=false:=by
          obtain ⟨d,hd⟩:∃ d,i - w=d+1:=⟨i - w - 1,by omega⟩;rw [hd,Nat.testBit_succ];simp
        cases f w
        · simp [h3]
        · simp only [Bool.toNat_true,h5,h3,decide_false,Ai3]
theorem NV (m w:Nat) (h:m<2 ^ w):ofB m.testBit w=m:=by
  refine Aj4 λ i=> ?_;rw [ofB_bit];by_cases hi:i<w
  · simp [hi]
  · have:m.testBit i=false:=Nat.testBit_lt_two_pow (Ac3 h (Nat.pow_le_pow_right (by decide) (by omega)));simp [hi,this]
theorem MK {f g:Nat->Bool} {w:Nat} (h:∀ i,i<w->f i=g i):ofB f w=ofB g w:=by
  refine Aj4 λ i=> ?_;rw [ofB_bit,ofB_bit];by_cases hi:i<w
  · simp [hi,h i hi]
  · simp [hi]
theorem eq_ofB {m w:Nat} {f:Nat->Bool} (h:m<2 ^ w) (b:∀ i,i<w->m.testBit i=f i):m=ofB f w:=by
  rw [<-NV m w h];exact MK b
theorem bit_div (m e:Nat):m / 2 ^ e%2=(m.testBit e).toNat:=by
  rw [Nat.testBit_eq_decide_div_mod_eq];have:m / 2 ^ e%2<2:=Nat.mod_lt _ (by decide);by_cases h:m / 2 ^ e%2=1
  · simp [h]
  · have:m / 2 ^ e%2=0:=by omega
    simp [this]
def mOf (ns:List Nat):Nat:=ns.foldl (λ m n=>m ||| 2 ^ (n - 1)) 0
theorem mOf_snoc (ns:List Nat) (n:Nat):mOf (ns++[n])=mOf ns ||| 2 ^ (n - 1):=by unfold mOf;rw [List.foldl_append];rfl
theorem mOf_bit (ns:List Nat) (i:Nat):(mOf ns).testBit i=ns.any λ n=>decide (n - 1=i):=by
  refine snoc_ind (p:=λ ns=>(mOf ns).testBit i=ns.any λ n=>decide (n - 1=i)) (by simp [mOf]) (λ l a ih=> ?_) ns
  · rw [mOf_snoc,Nat.testBit_or,ih,List.any_append,Nat.testBit_two_pow];simp
theorem mOf_lt {ns:List Nat} {w:Nat} (h:∀ n∈ns,n - 1<w):mOf ns<2 ^ w:=by
  refine Nat.lt_pow_two_of_testBit _ λ i hi=> ?_;rw [mOf_bit,List.any_eq_false];intro n hn;have:=h n hn;simp;omega
def bits (m:Nat):Nat:=if m=0 then 0 else m.log2+1
theorem Px (m:Nat):m<2 ^ bits m:=by
  unfold bits;split
  · subst_vars;decide
  · exact Nat.lt_log2_self
theorem bits_le {m w:Nat} (h:m<2 ^ w):bits m<=w:=by
  unfold bits;split
  · exact Ad3 _
  · rename_i h0
    exact (Nat.log2_lt h0).mpr h
def nOf (m:Nat):List Nat:=((Aa5 (bits m)).filter m.testBit).map (· + 1)
theorem nOf_wide {m w:Nat} (h:m<2 ^ w):nOf m=((Aa5 w).filter m.testBit).map (· + 1):=by
  unfold nOf;have hb:=bits_le h;obtain ⟨d,rfl⟩:∃ d,w=bits m+d:=⟨w - bits m,by omega⟩;congr 1;rw [List.range_add,Ad6];have e:((Aa5 d).map (bits m+ ·)).filter m.testBit=[]:=by
    rw [Aj9];intro x hx;obtain ⟨k,_,rfl⟩:=Ab2.mp hx;rw [Nat.testBit_lt_two_pow (Ac3 (Px m) (Nat.pow_le_pow_right (by decide) (Nat.le_add_right _ _)))];simp
  rw [e,Ah8]
theorem nOf_len {m w:Nat} (h:m<2 ^ w):(nOf m).length<=w:=by
  rw [nOf_wide h,Aa2];exact Ae0 (List.length_filter_le _ _) (by simp)
theorem Nu (w i:Nat):(2 ^ w - 1).testBit i=decide (i<w):=Nat.testBit_two_pow_sub_one w i
theorem other_bit {m w i:Nat} (hi:i<w):((2 ^ w - 1) ^^^ m).testBit i= !m.testBit i:=by
  rw [Nat.testBit_xor,Nu];simp [hi]
theorem other_lt {m w:Nat} (h:m<2 ^ w):((2 ^ w - 1) ^^^ m)<2 ^ w:=Nat.xor_lt_two_pow (by have:0<2 ^ w:=Nat.two_pow_pos w;omega) h
end MM
namespace L2
open PySem PySem.Spec PyProof.Rows
section
variable {X:Cx}
theorem QI {x:Str} {i:Int} {pos:Pos} (h:∃ t,X.mg x=some (.int i t)) (hg:Gl X x:=by rfl) (hd:(x == ("__debug__":Str))=false:=by decide):PE X (.Name x pos) (tC (.int i)):=by
  obtain ⟨t,e⟩:=h;exact Lw hg e ⟨t,rfl⟩ hd
theorem JA {x z:Str} {pos:Pos} (h:∃ t,X.mg x=some (.str z t)) (hg:Gl X x:=by rfl) (hd:(x == ("__debug__":Str))=false:=by decide):PE X (.Name x pos) (tC (.str z)):=by
  obtain ⟨t,e⟩:=h;exact Lw hg e ⟨t,rfl⟩ hd
theorem FR:∀ {xs:List V} {us:List Value},us.length=xs.length->(∀ (j:Nat) (u:Value),us[j]?=some u->∃ x,xs[j]?=some x/\RelV x u)->Vals xs us
  | [],[],_,_=> .nil
  | x::xs,u::us,hl,h=>by
    obtain ⟨y,e,r⟩:=h 0 u rfl;simp only [List.getElem?_cons_zero,Ae7.injEq] at e;subst e;exact .cons r (FR (by simpa using hl) λ j v hv=>by simpa using h (j+1) v (by simpa using hv))
  | [],_::_,hl,_=>by simp at hl
  | _::_,[],hl,_=>by simp at hl
end
section
variable {H:Hp} {Q:VK} {σ:St} {td ty tv:TE} {D:Ends} {a:Addr} {kvs:List (Key × V)}
theorem P6 (h:td σ H λ x H1=>ty σ H1 λ y H2=>∃ a v,x= .ref a/\DGet H2 a y (some v)/\Q v H2):QZ td ty σ H Q:=h
theorem RW (h:ty σ H λ y H1=>td σ H1 λ x H2=>∃ a o,x= .ref a/\DGet H2 a y o/\Q (.bl o.isSome) H2):TX ty td σ H Q:=h
theorem Mh (h:ty σ H λ y H1=>td σ H1 λ x H2=>∃ a o,x= .ref a/\DGet H2 a y o/\Q (.bl (!o.isSome)) H2):LL ty td σ H Q:=h
theorem Pn (h:tv σ H λ v H1=>td σ H1 λ x H2=>ty σ H2 λ y H3=>∃ a H4,x= .ref a/\DPut H3 a y v H4/\D.nx σ H4):Qv td ty tv D σ H:=h
theorem OY {R:List (V × V)->Hp->Prop} (h:R [] H):DV [] σ H R:=h
theorem NK {tk tw:TE} {r:List (TE × TE)} {R:List (V × V)->Hp->Prop} (h:tk σ H λ x H1=>tw σ H1 λ y H2=>DV r σ H2 λ ps H3=>R ((x,y)::ps) H3):DV ((tk,tw)::r) σ H R:=h
end
theorem Room.units1 {k:Nat} {A:Around} (r:Room k A):A.units+1<cLine:=by have:=r.un;omega
section
variable {H:Hp} {Q:VK} {σ:St} {K:PySem.W.Frag} {to:TE} {t:TA} {r:V->List V->Hp->VK->Prop} {T:String} {l p q:Addr} {xs ys:List V} {y:V}
theorem RK (h:to σ H λ x H1=>tyV K T x H1/\r x [] H1 Q):S6 K T r to σ H Q:=h
theorem VP (h:to σ H λ x H1=>tyV K T x H1/\t σ H1 λ xs H2=>r x xs H2 Q):tBM K T r to t σ H Q:=h
theorem tyL {B:Prop} (c:SqL K H l xs) (h:B):tyV K "list" (.ref l) H/\B:=⟨.inl ⟨rfl,xs,c⟩,h⟩
theorem tyI {B:Prop} {i:Int} (h:B):tyV K "int" (.int i) H/\B:=⟨rfl,h⟩
theorem BV (c:H l=some (.lst xs)) (b:xs.length<16777216) (h:Q .non (upd H l (.lst (xs++[y])))):rAppend (.ref l) [y] H Q:=⟨l,xs,y,rfl,rfl,c,by rw [sizeLine_eq];exact b,h⟩
theorem Iq (c:SqL K H l xs) (d:SqL K H p ys) (b:xs.length+ys.length<=16777216) (h:∀ q,H q=none->Q (.ref q) (upd H q (.lst (xs++ys)))):NU K (.ref l) (.ref p) H Q:=⟨l,p,xs,ys,rfl,rfl,c,d,by rw [sizeLine_eq];exact b,h⟩
theorem So {k:Int} (c:H l=some (.lst xs)) (b1:0<=k) (b2:k<=100000) (b3:xs.length<=100) (h:∀ q,H q=none->Q (.ref q) (upd H q (.lst (Ad5 k.toNat xs).flatten))):UG (.ref l) (.int k) H Q:=
  ⟨l,k,xs,rfl,rfl,c,by omega,by omega,by
    rw [sizeLine_eq];have h1:k.toNat<=100000:=by omega
    exact Ae0 (Nat.mul_le_mul b3 h1) (by decide),h⟩
theorem Le {as bs:List Int} (c:SqL K H l (as.map V.int)) (d:SqL K H p (bs.map V.int)) (h:Q (.bl (decide (as=bs))) H):Mz K false (.ref l) (.ref p) H Q:=
  ⟨l,p,_,_,rfl,rfl,c,d,EN as,EN bs,by rw [Jm];exact h⟩
theorem CA {as bs:List Int} (c:SqL K H l (as.map V.int)) (d:SqL K H p (bs.map V.int)) (h:Q (.bl (!decide (as=bs))) H):Mz K true (.ref l) (.ref p) H Q:=
  ⟨l,p,_,_,rfl,rfl,c,d,EN as,EN bs,by rw [Jm];exact h⟩
theorem Kw {z:Addr} (c:SqT K H z xs) (h:∀ q,H q=none->Q (.ref q) (upd H q (.lst xs))):KF K [.ref z] H Q:=⟨z,xs,rfl, .inr c,h⟩
theorem JL {z:Addr} (c:SqL K H z xs) (h:∀ q,H q=none->Q (.ref q) (upd H q (.tup xs))):Jr K [.ref z] H Q:=⟨z,xs,rfl, .inl ⟨c,h⟩⟩
end
end L2
namespace L2
open PySem
open Sem (wp)
open AutoSeq1 (wpAny_loadPart')
section
variable {prog:Program} {w:World} {A:Around} {E:Value->Shared->Prop} {s:Shared}
theorem JP {T newId:String} {Bn:Builtin} {v:Value} {x:Str} {u:Value} {Q:Value->Shared->Prop} (ft:TypeCalled T newId "object.__init__") (hne:(some newId != some "object.__new__")=true)
    (hct:checkTypeCall T ⟨[v],[(x,u)]⟩=pure ()) (hcn:checkBuiltinCall newId ⟨[.type T,v],[(x,u)]⟩=pure ()) (hok:∀ obj,argsOk "object.__init__" ⟨[obj,v],[(x,u)]⟩) (entryN:entryFor table newId=some Bn)
    (g:wpAny (model prog w) A.in1.in1 (Bn ⟨[.type T,v],[(x,u)]⟩) (λ fin s1=>∃ obj,fin= .done (.ret obj)/\s1.TypeIs obj T/\Q obj s1) E s):wpAny (model prog w) A (call (.type T) [v] [(x,u)]) Q E s:=by
  obtain ⟨c,tl,hmro⟩:=ft.mro;have hmade:=ft.made;have hsub:=ft.sub;refine wpAny_call (codeAny_of_tree ?_);show wpAny _ _ (callAny (.type T) _) _ _ _;refine Aa7 ⟨Code.quiet_builtin _ (by decide +kernel),codeAny_builtin F.entry_type_call ?_⟩;rw [Around.under_plain (weight_type_call_type T [v] [(x,u)]) (units_type_call_type T [v] [(x,u)])];have h1:=ft.notType;have h2:=ft.canCreate
  repeat (any_goals (first | assumption | wp_step))
  refine codeAny_call_builtin ft.plain entryN (wpAny_of_eq hcn (Ag6 g (λ fin s1 q=> ?_) λ _ _ q=>q));obtain ⟨obj,rfl,hT,q⟩:=q;have hli:=ft.init.lookup;have hbi:=ft.init.bind obj;show wpAny _ _ _ _ _ _
  repeat (any_goals (first | assumption | wp_step))
  refine codeAny_call_builtin ft.init.plain F.entry_object_init (ft.init.check _ _ _ _ _ _ _ _ hT (hok obj) ?_)
  repeat (any_goals (first | assumption | wp_step))
  trace_state
theorem IS {v:Value} {t:Tok} {Q:Value->Shared->Prop}
    (h:wpAny (model prog w) A (pyIter v) (λ itv s1=>Q (.ref s1.heap.objs.size) { s1 with heap:=s1.heap.push { cls:= .type "enumerate",data:= .fields #[.none, .bool false,itv,rawInt 1, .none, .none] } }) E s):
    wpAny (model prog w) A (Builtin.«enumerate.__new__» ⟨[.type "enumerate",v],[("start", .int 1 t)]⟩) (λ fin s1=>∃ obj,fin= .done (.ret obj)/\Q obj s1) E s:=by
  have hsub:=sub_enumerate;have hit:∀ {R:Value->Shared->Prop},(∀ itv s1,Q (.ref s1.heap.objs.size) { s1 with heap:=s1.heap.push { cls:= .type "enumerate",data:= .fields #[.none, .bool false,itv,rawInt 1, .none, .none] } }->R itv s1)->wpAny (model prog w) A (pyIter v) R E s:=λ k=>Ag6 h k λ _ _ q=>q;unfold Builtin.«enumerate.__new__»
  wp_walk
  refine wpAny_stack_any λ st=>Aa7 ?_;split
  · rename_i c _ _ _ _ _
    cases (c == Value.type "enumerate")
    · wp_walk using hit
      intro itv s1 q
      wp_walk
      exact ⟨_,rfl,q⟩
    · wp_walk using hit
      intro itv s1 q
      wp_walk
      exact ⟨_,rfl,q⟩
  · wp_walk using hit
    intro itv s1 q
    wp_walk
    exact ⟨_,rfl,q⟩
theorem J7 {v:Value} {t:Tok} {Q:Value->Shared->Prop}
    (h:wpAny (model prog w) A.in1.in1 (pyIter v) (λ itv s1=>∃ it,itv= .ref it/\∀ h',IsEnum h' s1.heap.objs.size it 1 .none->(∀ b o,s1.heap.get? b=some o->h'.get? b=some o)->h'.objs.size=s1.heap.objs.size+1->Q (.ref s1.heap.objs.size) { s1 with heap:=h' }) E s):
    wpAny (model prog w) A (call (.type "enumerate") [v] [("start", .int 1 t)]) Q E s:=by
  refine JP F.called_enumerate (by decide) (by kernel_rfl) (by kernel_rfl) (λ obj=>by unfold argsOk;kernel_rfl) F.entry_enumerate_new (IS (Ag6 h (λ itv s1 q=> ?_) λ _ _ q=>q));obtain ⟨it,rfl,q⟩:=q;refine ⟨⟨_,Ab3 _ rfl,rfl⟩,q _ (Ab3 _ rfl) (λ b o e=>Aa4 _ e) (Heap.size_push ..)⟩
end
theorem R9 {prog:Program} {w:World} {A:Around} {it:Addr} {fp:List Addr} {n:Nat} {Pv:Nat->Value->Prop} {St:Nat->Heap->Prop} (k:Nat) (D:Draws prog w A it fp n Pv St):
    Draws prog w A it fp (n+k) (λ i v=>∃ j,i=j+k/\Pv j v) (λ i h=>∃ j,i=j+k/\St j h) where
  live:=λ i h ⟨j,_,st⟩=>D.live j h st
  frame:=λ i h h' ⟨j,e,st⟩ q=>⟨j,e,D.frame j h h' st q⟩
  item:=λ i s Q E hi ⟨j,e,st⟩ hQ=>D.item j s Q E (by omega) st λ x h' tk p st' sb=>hQ x h' tk ⟨j,e,p⟩ ⟨j+1,by omega,st'⟩ sb
  done:=λ s Q E ⟨j,e,st⟩ hE=>D.done s Q E (by
    have q:j=n:=by omega
    rw [q] at st;exact st) hE
theorem Jg {M:Model} {A:Around} {E:Value->Shared->Prop} {s:Shared} {pos:Pos} {T:String} {args:List (Bool × Sem Value)} {kws:List (Option Str × Sem Value)} {Q:Value->Shared->Prop}
    (hp:args.any (·.1)=false) (hk:kws.any (·.1.isNone)=false) (h:wpAny M A (evalArgs (.type T) true args kws) (λ a s1=>wpAny M A (call (.type T) a.pos a.kw) Q E s1) E s):wpAny M A (callWith pos (.type T) [] args kws) Q E s:=by
  unfold callWith;refine Aa3 (Ah9 (Ag6 h (λ a s1 h1=>Aa3 (wpAny_standAt ?_)) λ _ _ q=>q));simp only [hp,hk,Bool.or_false];refine Aa3 (Aa7 ?_);refine Aa3 (Ag6 h1 (λ r s2 hr=> ?_) λ _ _ q=>q);exact Aa3 (Ah9 (wpAny_point (Aa7 hr)))
end L2
namespace L2
open PySem PySem.Spec PyProof.Rows
theorem Tc {prog:Program} {w:World} {A:Around} (hh:A.handled=none) (tp:Bool) (it l:Addr) (hne:l≠it) (items:Array Value):
    Draws prog w A it [it,l] items.size (λ i v=>items[i]?=some v) (λ i h=>Cb tp h it l i/\Fi tp h l items) where
  live:=λ _ _ st=>let ⟨o,e,_⟩:=DG st.1;⟨o,e⟩
  frame:=λ _ _ _ st hk=>⟨Ex st.1 λ o e=>hk it (by simp) o e,JE st.2 λ o e=>hk l (by simp) o e⟩
  item:=λ i s Q E hi st hQ=>Ot st.1 st.2 (x:=items[i]) (by simp [hi]) λ h' hit sb=>hQ _ h' s.toks (by simp [hi]) ⟨hit,JE st.2 λ o e=>(sb.2 l hne).trans e⟩ sb
  done:=λ s Q E st hE=>LN hh st.1 st.2 (by simp) hE
def MX (tp:Bool) (K:PySem.W.Frag) (a:Addr):It:=
  ⟨λ i H=>∃ xs x,SqS tp K H a xs/\xs[i]?=some x,λ i H v H'=>∃ p x,H p=none/\v= .ref p/\H'=upd H p (.tup [.int ((i+1:Nat):Int),x])/\∀ xs,SqS tp K H a xs->xs[i]?=some x,λ i H=>∃ xs,SqS tp K H a xs/\xs.length<=i⟩
theorem Kv {P:Program} {w:World} {K:PySem.W.Frag} {elts:List Expr} {k:Nat} {pos:Pos} (tp:Bool) (a e it:Addr) (hne:e≠it):
    Turn P w K (.Tuple elts k pos) (MX tp K a) [e,it] e (λ i h=>(∃ old,IsEnum h e it ((i+1:Nat):Int) old)/\Cb tp h it a i) where
  mem:=by simp
  obj:=λ i h st b hb=>by
    obtain ⟨⟨old,he⟩,hi⟩:=st;obtain ⟨o,eo,d⟩:=DG hi;rcases Ac2.mp hb with z | z
    · subst z;exact ⟨_,he,λ v z=>by cases (show Data.fields _=Data.cell v from z)⟩
    · have z:b=it:=by simpa using z
      subst z;exact ⟨o,eo,λ v z=>by rw [d] at z;cases z⟩
  keep:=λ i h h' st kp=>by
    obtain ⟨⟨old,he⟩,hi⟩:=st;exact ⟨⟨old,kp e (by simp) _ he⟩,Ex hi λ o z=>kp it (by simp) o z⟩
  item:=by
    intro X hP hw hK hc i pins s σ H E I hf st hg;subst hP hw hK;obtain ⟨xs,x,hq,hx⟩:=hg;obtain ⟨its,rv,p⟩:=IB I hq;obtain ⟨u,hu,ru⟩:=rv.get hx;obtain ⟨⟨old,he⟩,hi⟩:=st;obtain ⟨oi,ei,di⟩:=DG hi;obtain ⟨oa,na,ea,da⟩:=Hz p;have hel:e<s.heap.objs.size:=Aa9 he;have hil:it<s.heap.objs.size:=Aa9 ei;have nia:a≠it:=λ z=>by
      subst z;rw [ei] at ea;cases ea;rw [di] at da;cases da
    have nea:e≠a:=λ z=>by
      subst z;rw [show s.heap.get? e=_ from he] at ea;cases ea;cases (show Data.fields _=Data.seq _ _ from da)
    have hlt:i<its.toArray.size:=by
      have:=(Ab1.mp hu).1;simpa using this
    have D:=R9 1 (Tc (prog:=X.prog) (w:=X.w) (A:=X.A.in1) (I.ok.hd hc) tp it a nia its.toArray);refine wpAny_pyNext_enum_itemD (i:=i+1) D he ⟨i,rfl,hi,p⟩ (by omega) hne (by simp [hne,nea]) λ v h' tk pv ho st' hT hsz hk=> ?_;obtain ⟨j,ej,ev⟩:=pv;obtain ⟨j2,ej2,hi',p'⟩:=st';have ej:j=i:=by omega
    have ej2:j2=i+1:=by omega
    subst ej ej2;have ev:v=u:=by
      rw [show its.toArray[j]?=some u by simpa using hu] at ev;exact (Ae7.inj ev).symm
    subst ev;have I0:=I.laid (h':=s.heap.push { cls:= .type "tuple",data:= .seq #[.int ((j+1:Nat):Int) tk,v] }) (a:=s.heap.objs.size) (o:= .tup [.int ((j+1:Nat):Int),x]) (t':=tk+1) (λ _ _ q=>Aa4 _ q) (Aa6 _)
      ⟨(by show 2<=sizeLine;decide),[.int ((j+1:Nat):Int) tk,v], .cons ⟨_,rfl⟩ (.cons ru .nil),⟨_,Ab3 _ rfl,rfl,_,rfl⟩⟩
    have f0:∀ b∈[e,it],Ce X pins (upd H s.heap.objs.size (.tup [.int ((j+1:Nat):Int),x])) b:=λ b hb=>M6 (hf b hb) (by
      rcases Ac2.mp hb with z | z
      · rw [z];exact Ac9 hel
      · rw [show b=it by simpa using z];exact Ac9 hil)
    have I1:=Inv.turnedL (t':=tk+1) (h':=h') [e,it] I0 f0 (λ b o hb z=>by
      have hb1:b≠e:=λ q=>hb (by simp [q]);have hb2:b≠it:=λ q=>hb (by simp [q]);rcases Heap.get?_push_cases (show (s.heap.push { cls:= .type "tuple",data:= .seq #[.int ((j+1:Nat):Int) tk,v] }).get? b=some o from z) with ⟨q1,q2⟩ | q
      · rw [q1,q2];exact hT
      · exact hk b o hb1 hb2 q)
    refine ⟨.ref s.heap.objs.size,rfl,wpAny_letOwnedTupleGo_enum (s:={ s with heap:=h',toks:=tk+1 }) ho λ h2 he2 sb=> ?_⟩;exact ⟨.ref s.heap.objs.size,_,Inv.turnedL (t':=tk+1) (h':=h2) [e,it] I1 f0 (λ b o hb z=>(sb.2 b λ q=>hb (by simp [q])).trans z),rfl,⟨_,x,I.fresh,rfl,rfl,λ ys hy=>by rw [Pl I hy hq];exact hx⟩,
      ⟨⟨v,by simpa using he2⟩,Ex hi' λ o z=>(sb.2 it hne.symm).trans z⟩,λ b hb=>(f0 b hb).1⟩
  done:=by
    intro X hP hw hK hc i pins s σ H E I hf st hg;subst hP hw hK;obtain ⟨xs,hq,hx⟩:=hg;obtain ⟨its,rv,p⟩:=IB I hq;obtain ⟨⟨old,he⟩,hi⟩:=st;obtain ⟨oi,ei,di⟩:=DG hi;obtain ⟨oa,na,ea,da⟩:=Hz p;have hT:s.TypeIs (.ref e) "enumerate":=⟨_,he,rfl⟩;have hl:=rv.length;unfold pyNext;refine Aa3 (wpAny_attempt (Ag7 (name:=Str.ofString "__next__") hT F.slot_enumerate_next (Ag1 F.slot_enumerate_next hT F.entry_enumerate_next ?_ (F.args_enumerate_next_1 _))));show wpAny _ _ (field (.ref e) 2 >>= _) _ _ _;refine Aa3 (wpAny_field he rfl (x:= .ref it) rfl ?_);refine Aa3 (LN (A:=X.A.in1) (I.ok.hd hc) hi p (by simp;omega) λ h' x eb hx'=> ?_);obtain ⟨o,ho,hc2⟩:=hx';exact Aa3 (Ai6 (T:="StopIteration") (b:=true) ⟨o,ho,hc2⟩ isSubtype_stop (Aa7 ⟨rfl,I.turnedL (t':=s.toks) [e,it] hf λ b o hb z=>eb b o (λ q=>hb (by simp [q])) z⟩))
  self:=λ _ _ _ _ _ st h=>by
    obtain ⟨⟨old,he⟩,_⟩:=st;exact wpAny_pyIter_enum he h
section
variable {X:Cx} {elts:List Expr} {k:Nat} {tpos:Pos} {K:PySem.W.Frag}
def Ng (K:PySem.W.Frag) (ta:TA):TI:=λ σ H R=>ta σ H λ vs H1=>∃ tp a,vs=[.ref a]/\(∃ xs,SqS tp K H1 a xs)/\R (MX tp K a) H1
theorem Ji {l:Expr} {ta:TA} {p pos kp cp:Pos} {cj:Nat} (hg:Gl X "enumerate") (hm:X.mg "enumerate"=none) (ha:PA X [l] ta) (hK:X.K=K:=by rfl) (hs:starEach [l] X.env=[(false,eval l X.env)]:=by rfl):
    PI X (.Tuple elts k tpos) (.Call (.Name "enumerate" p) [l] [⟨some "start", .Constant (.int 1) cj cp,kp⟩] pos) (Ng K ta):=by
  subst hK;intro pins s σ H R I h;refine Aj1 (BX I hg hm HE (Jg (by rw [hs];rfl) rfl (PyProof.Rows.evalArgs_kw2 rfl ?_ (by rw [hs];rfl))));refine thn (ha pos pins s σ H _ I h) λ us s1 ⟨vs,H1,I1,r1,q1⟩=>PyProof.Rows.kwAll_cons ?_;refine Ag pins s1 σ H1 (λ v H2=>v= .int 1/\H2=H1) I1 ⟨rfl,rfl⟩ |> λ z=>thn z λ u s2 ⟨v,H2,I2,r2,ev,eh⟩=> ?_
  subst ev eh;obtain ⟨t,rfl⟩:=r2;refine PyProof.Rows.kwAll_nil ?_;obtain ⟨tp,a,e,⟨xs,hq⟩,q⟩:=q1;subst e;cases r1 with
  | cons r rr=>
    cases rr;cases r;obtain ⟨its,rv,pl⟩:=IB I2 hq;refine J7 ?_;refine NE pl ⟨_,rfl,λ h' he hk hsz=> ?_⟩;refine wpAny_pyIter_enum he ?_;have hz:(s2.heap.push { cls:= .type (NX tp),data:= .fields #[.ref a, .int 0 0] }).objs.size=s2.heap.objs.size+1:=Heap.size_push ..;have hk2:∀ b o,s2.heap.get? b=some o->h'.get? b=some o:=λ b o z=>hk b o (Aa4 _ z);have I3:=I2.kept (t':=s2.toks) hk2;have st:Cb tp h' s2.heap.objs.size a 0:=Ex L8 λ o z=>hk _ o z;refine ⟨_,[_,s2.heap.objs.size],_,_,H2,rfl,I3,Kv tp a _ _ (by rw [hz];exact Nat.succ_ne_self _),⟨⟨_,he⟩,st⟩,λ b hb=> ?_,q⟩;have hb':s2.heap.objs.size<=b:=by
      rcases Ac2.mp hb with z | z
      · rw [z,hz];exact Nat.le_succ _
      · have z:b=s2.heap.objs.size:=by simpa using z
        rw [z];exact Aa6 _
    exact I2.fpOk hb' (I2.hok.fresh hb')
end
def Isq (tp:Bool) (K:PySem.W.Frag) (a:Addr):It:=if tp=true then Itt K a else Itl K a
section
variable {X:Cx} {tg:Expr} {K:PySem.W.Frag}
def iSq (K:PySem.W.Frag) (tl:TE):TI:=λ σ H R=>tl σ H λ x H1=>∃ tp a,x= .ref a/\(∃ xs,SqS tp K H1 a xs)/\R (Isq tp K a) H1
theorem U8 {l:Expr} {tl:TE} (hl:PE X l tl) (hK:X.K=K:=by rfl):PI X tg l (iSq K tl):=by
  subst hK;intro pins s σ H R I h;refine thn (hl pins s σ H _ I h) λ v s1 ⟨x,H1,I1,r1,q1⟩=> ?_;obtain ⟨tp,a,e,⟨xs,hq⟩,q⟩:=q1;subst e;cases r1;cases tp with
  | false=>
    obtain ⟨its,rv,p,hz⟩:=I1.list (show SqL X.K H1 a xs from hq);refine wpAny_pyIter_list p.isList ?_;refine ⟨s1.heap.objs.size,[s1.heap.objs.size],_,_,H1,rfl,I1.kept (t':=s1.toks) λ b o e=>Aa4 _ e,HR a _,⟨_,Ab3 _ rfl,rfl,rfl⟩,λ b hb=> ?_,q⟩;have e:b=s1.heap.objs.size:=by simpa using hb
    subst e;exact I1.fpOk (Aa6 _) (I1.hok.fresh (Aa6 _))
  | true=>
    obtain ⟨its,rv,p,hz⟩:=I1.tuple (show SqT X.K H1 a xs from hq);refine wpAny_pyIter_tuple (show s1.heap.IsTuple a its.toArray from p) ?_;refine ⟨s1.heap.objs.size,[s1.heap.objs.size],_,_,H1,rfl,I1.kept (t':=s1.toks) λ b o e=>Aa4 _ e,F4 a _,⟨_,Ab3 _ rfl,rfl,rfl⟩,λ b hb=> ?_,q⟩;have e:b=s1.heap.objs.size:=by simpa using hb
    subst e;exact I1.fpOk (Aa6 _) (I1.hok.fresh (Aa6 _))
end
structure FSrc (J:It) (g:TG) (H:Hp) (n:Nat) (set:Nat->St->St):Prop where
  go:∀ i H',i<n->Same H H'->J.go i H'
  stop:∀ H',Same H H'->J.stop n H'
  yld:∀ i σ H' x H'' (R:St->Hp->Prop),i<n->Same H H'->J.yld i H' x H''->(∀ H3,Same H' H3->R (set i σ) H3)->g x σ H'' R
theorem Dz {J:It} {g:TG} {H:Hp} {n:Nat} {set:Nat->St->St} {tb:TS} {D:Ends} {σ:St} (S:FSrc J g H n set) (Pv:Nat->St->Hp->Prop) (h0:Pv 0 σ H) (hk:∀ i σ H',Pv i σ H'->Same H H')
    (hs:∀ i σ H' H3,i<n->Pv i σ H'->Same H' H3->tb { D with nx:=Pv (i+1),ct:=Pv (i+1),bk:=D.nx } (set i σ) H3) (hd:∀ σ H',Pv n σ H'->D.nx σ H'):
    ∃ W:Nat->Nat->St->Hp->Prop,(∃ m,W 0 m σ H)/\∀ i m σ H,W i m σ H->
      (J.stop i H/\D.nx σ H)\/(J.go i H/\∃ N:St->Hp->Prop,(∀ σ' H',N σ' H'->∃ m',m'<m/\W (i+1) m' σ' H')/\∀ x H',J.yld i H x H'->g x σ H' λ σ2 H2=>tb { D with nx:=N,ct:=N,bk:=D.nx } σ2 H2):=by
  refine ⟨λ i m σ H'=>m=n - i/\i<=n/\Pv i σ H',⟨n,by simp,Ad3 _,h0⟩,?_⟩;rintro i m σ H1 ⟨rfl,hi,p⟩;by_cases hlt:i<n
  · exact .inr ⟨S.go i H1 hlt (hk _ _ _ p),Pv (i+1),λ σ' H' p'=>⟨n - (i+1),by omega,rfl,hlt,p'⟩,λ x H' y=>S.yld i σ H1 x H' _ hlt (hk _ _ _ p) y λ H3 s3=>hs i σ H1 H3 hlt p s3⟩
  · have e:i=n:=by omega
    subst e;exact .inl ⟨S.stop H1 (hk _ _ _ p),hd σ H1 p⟩
section
variable {K:PySem.W.Frag} {H:Hp} {a b:Addr} {xs zs:List V} {tp t1 t2:Bool} {i1 i2:Nat}
theorem Qr (h:SqS tp K H a xs):FSrc (Isq tp K a) (Ax i1) H xs.length (λ i σ=>σ.set i1 (some (xs.getD i .non))):=by
  cases tp with
  | false=>exact {
      go:=λ i H' hi s=>⟨xs,xs[i],SqS.same (tp:=false) h s,by simp [hi]⟩
      stop:=λ H' s=>⟨xs,SqS.same (tp:=false) h s,Aa6 _⟩
      yld:=λ i σ H' x H'' R hi s y k=>by
        obtain ⟨e,hv⟩:=y;subst e;have e:x=xs.getD i .non:=by
          rw [Aa0,hv xs (SqS.same (tp:=false) h s)];rfl
        subst e;exact k _ (Same.refl _) }
  | true=>exact {
      go:=λ i H' hi s=>⟨xs,xs[i],SqS.same (tp:=true) h s,by simp [hi]⟩
      stop:=λ H' s=>⟨xs,SqS.same (tp:=true) h s,Aa6 _⟩
      yld:=λ i σ H' x H'' R hi s y k=>by
        obtain ⟨e,hv⟩:=y;subst e;have e:x=xs.getD i .non:=by
          rw [Aa0,hv xs (SqS.same (tp:=true) h s)];rfl
        subst e;exact k _ (Same.refl _) }
theorem B6 (h:SqL K H a xs):FSrc (Itl K a) (Ax i1) H xs.length (λ i σ=>σ.set i1 (some (xs.getD i .non))):=Qr (tp:=false) h
theorem NZ {lo:Int} {n:Nat}:FSrc (Itr lo n) (Ax i1) H n (λ i σ=>σ.set i1 (some (.int (lo+i)))) where
  go:=λ i H' hi s=>hi
  stop:=λ H' s=>Aa6 _
  yld:=λ i σ H' x H'' R hi s y k=>by
    obtain ⟨e,hv⟩:=y;subst e hv;exact k _ (Same.refl _)
theorem N2 (h:SqS tp K H a xs):FSrc (MX tp K a) (E8 K 2 (A0 (Ax i1) (A0 (Ax i2) FC))) H xs.length (λ i σ=>(σ.set i1 (some (.int ((i+1:Nat):Int)))).set i2 (some (xs.getD i .non))) where
  go:=λ i H' hi s=>⟨xs,xs[i],h.same s,by simp [hi]⟩
  stop:=λ H' s=>⟨xs,h.same s,Aa6 _⟩
  yld:=λ i σ H' x H'' R hi s y k=>by
    obtain ⟨p,v,hp,rfl,rfl,hv⟩:=y;have e:v=xs.getD i .non:=by
      rw [Aa0,hv xs (h.same s)];rfl
    subst e;exact ⟨p,_,rfl,SqT.of Ac,rfl,_,_,rfl,_,_,rfl,rfl,k _ (Af hp)⟩
theorem P7 (h:SqL K H a xs):FSrc (Ite K a) (E8 K 2 (A0 (Ax i1) (A0 (Ax i2) FC))) H xs.length (λ i σ=>(σ.set i1 (some (.int i))).set i2 (some (xs.getD i .non))) where
  go:=λ i H' hi s=>⟨xs,xs[i],s.seq h,by simp [hi]⟩
  stop:=λ H' s=>⟨xs,s.seq h,Aa6 _⟩
  yld:=λ i σ H' x H'' R hi s y k=>by
    obtain ⟨p,v,hp,rfl,rfl,hv⟩:=y;have e:v=xs.getD i .non:=by
      rw [Aa0,hv xs (s.seq h)];rfl
    subst e;exact ⟨p,_,rfl,SqT.of Ac,rfl,_,_,rfl,_,_,rfl,rfl,k _ (Af hp)⟩
theorem FSrc.src {J:It} {g:TG} {n:Nat} {set:Nat->St->St} {σ0:St} (S:FSrc J g H n set) (kp:∀ i,i<n->Kp σ0 (set i σ0)):SrcOk J g σ0 H n (λ i=>set i σ0) where
  go:=S.go
  stop:=S.stop
  yld:=λ i H' x H'' R hi s y k=>S.yld i σ0 H' x H'' R hi s y k
  kp:=kp
theorem HI {σ0:St} (h:SqS tp K H a xs) (h0:σ0[0]?=some none) (h1:σ0[1]?=some none):SrcOk (MX tp K a) (E8 K 2 (A0 (Ax 0) (A0 (Ax 1) FC))) σ0 H xs.length (λ i=>(σ0.set 0 (some (.int ((i+1:Nat):Int)))).set 1 (some (xs.getD i .non))):=
  (N2 h).src λ i _=>((Kp.refl _).set h0).set h1
end
theorem bA (a b:Nat):Builtin.bitAnd (a:Int) (b:Int)=((a &&& b:Nat):Int):=by
  rw [PyProof.Rows.bitAnd_pp (by omega) (by omega)];rfl
theorem bO (a b:Nat):Builtin.bitOr (a:Int) (b:Int)=((a ||| b:Nat):Int):=by
  have h:=MM.or_add_and a b;rw [PyProof.Rows.bitOr_and,bA];omega
theorem bX (a b:Nat):Builtin.bitXor (a:Int) (b:Int)=((a ^^^ b:Nat):Int):=by
  have h:=MM.xor_eq a b;show Builtin.bitOr (a:Int) b - Builtin.bitAnd (a:Int) b=_;rw [bO,bA];omega
theorem P0 (m:Nat):((Builtin.Int.intBits (m:Int):Nat):Int)=((MM.bits m:Nat):Int):=by
  unfold Builtin.Int.intBits MM.bits;by_cases h:m=0
  · subst h;rfl
  · have e:((m:Int) == 0)=false:=by simp [h]
    rw [e,if_neg h];simp
theorem JH (n:Nat):(1:Int)*2 ^ n=((2 ^ n:Nat):Int):=by
  rw [Int.one_mul];push_cast;rfl
section
variable {X:Cx}
def rBits:V->List V->Hp->VK->Prop:=λ x vs H Q=>∃ i:Int,x= .int i/\vs=[]/\Q (.int (Builtin.Int.intBits i:Nat)) H
theorem Hr:MtM X "int.bit_length" rBits:=by
  intro pins s σ H x vs v us Q I rx rv h;obtain ⟨i,rfl,rfl,q⟩:=h;obtain ⟨t,rfl⟩:=rx;have hus:=rv.zero;subst hus;exact PyProof.Rows.call_int_bit_length ⟨.int _,H,I.tok _,⟨_,rfl⟩,q⟩
end
section
variable {H:Hp} {Q:VK} {σ:St} {D:Ends} {te:TE} {ti:TIp} {i:Nat} {x:V}
theorem P5 {m:Nat} (h:Q (.int (MM.bits m:Nat)) H):rBits (.int (m:Nat)) [] H Q:=⟨m,rfl,rfl,by rw [P0];exact h⟩
theorem Rl (e:σ[i]?=some (some x)) (h:te σ H λ y H1=>ti x y H1 λ z H2=>D.nx (σ.set i (some z)) H2):Wl i te ti D σ H:=⟨x,e,h⟩
end
abbrev nV (n:Nat):V:= .int (n:Nat)
theorem AA {ns:List Nat} {i:Nat} (h:i<(ns.map nV).length):(ns.map nV).getD i .non= .int (ns.getD i 0:Nat):=by
  have h':i<ns.length:=by simpa using h
  simp [Aa0,h']
theorem JD {ns:List Int} {i:Nat} (h:i<(ns.map V.int).length):(ns.map V.int).getD i .non= .int (ns.getD i 0):=by
  have h':i<ns.length:=by simpa using h
  simp [Aa0,h']
theorem OT {ns:List Int} {k:Int} (h0:0<=k) (h1:k<ns.length):atI (ns.map V.int) k=some (.int (ns.getD k.toNat 0)):=by
  obtain ⟨j,rfl⟩:∃ j:Nat,k=j:=⟨k.toNat,by omega⟩;have h':j<ns.length:=by omega
  refine AT ?_;rw [show ((j:Int)).toNat=j by omega];simp [Aa0,h']
theorem BL {ns:List Nat} {k:Int} (h0:0<=k) (h1:k<ns.length):atI (ns.map nV) k=some (.int (ns.getD k.toNat 0:Nat)):=by
  obtain ⟨j,rfl⟩:∃ j:Nat,k=j:=⟨k.toNat,by omega⟩;have h':j<ns.length:=by omega
  refine AT ?_;rw [show ((j:Int)).toNat=j by omega];simp [Aa0,h']
theorem L3 {ns:List Nat} {i:Nat} (h:i<ns.length):ns.take (i+1)=ns.take i++[ns.getD i 0]:=by
  rw [List.take_succ_eq_append_getElem h];simp [Aa0,h]
theorem Bg {J:It} {g:TG} {σ0:St} {H:Hp} {n:Nat} {st:Nat->St} {te:TE} {Q:VK} {D:Addr} {G:Nat->Int} (S:SrcOk J g σ0 H n st) (hD:H D=none) (hn:n<=100000)
    (he:∀ i H' (R:VK),i<n->Same H H'->(∀ H3,Same H' H3->R (.int (G i)) H3)->te (st i) H' R)
    (hd:∀ H',Same H H'->H' D=some (.lst (((Aa5 n).map G).map V.int))->Q (.ref D) H'):DK J σ0 g LX te Q H D:=by
  refine BZ (m:=0) (G:=λ i=> .int (G i)) S hD hn (λ i H' R hi s k=>he i H' R hi s λ H3 s3=>k H3 _ s3 (.int _)) λ H' ys s hl r=> ?_;have e:(Aa5 n).map (λ i=>Dt.int (G i))=((Aa5 n).map G).map Dt.int:=by rw [Ac8];rfl
  rw [e] at r;obtain ⟨b,eb,hb,fb⟩:=KQ r;cases eb;exact hd H' s hb
theorem Be {J:It} {g:TG} {σ0:St} {H:Hp} {n:Nat} {st:Nat->St} {tc:TT} {te:TE} {Q:VK} {D:Addr} {p:Nat->Bool} {G:Nat->Int} (S:SrcOk J g σ0 H n st) (hD:H D=none) (hn:n<=100000)
    (ht:∀ i H' (R:Bool->Hp->Prop),i<n->Same H H'->(∀ H3,Same H' H3->R (p i) H3)->tc (st i) H' R)
    (he:∀ i H' (R:VK),i<n->p i=true->Same H H'->(∀ H3,Same H' H3->R (.int (G i)) H3)->te (st i) H' R)
    (hd:∀ H',Same H H'->H' D=some (.lst ((((Aa5 n).filter p).map G).map V.int))->Q (.ref D) H'):DK J σ0 g tc te Q H D:=by
  refine E2 (m:=0) (p:=p) (G:=λ i=> .int (G i)) S hD hn ht (λ i H' R hi hp s k=>he i H' R hi hp s λ H3 s3=>k H3 _ s3 (.int _)) λ H' ys s hl r=> ?_;have e:((Aa5 n).filter p).map (λ i=>Dt.int (G i))=(((Aa5 n).filter p).map G).map Dt.int:=by rw [Ac8];rfl
  rw [e] at r;obtain ⟨b,eb,hb,fb⟩:=KQ r;cases eb;exact hd H' s hb
theorem Nz {J:It} {g:TG} {σ0:St} {H:Hp} {n:Nat} {st:Nat->St} {te:TE} {Q:VK} {D:Addr} {G:Nat->Bool} (S:SrcOk J g σ0 H n st) (hD:H D=none) (hn:n<=100000)
    (he:∀ i H' (R:VK),i<n->Same H H'->(∀ H3,Same H' H3->R (.bl (G i)) H3)->te (st i) H' R)
    (hd:∀ H',Same H H'->H' D=some (.lst (((Aa5 n).map G).map V.bl))->Q (.ref D) H'):DK J σ0 g LX te Q H D:=by
  refine BZ (m:=0) (G:=λ i=> .bl (G i)) S hD hn (λ i H' R hi s k=>he i H' R hi s λ H3 s3=>k H3 _ s3 (.bl _)) λ H' ys s hl r=> ?_;have e:ys=((Aa5 n).map G).map V.bl:=by
    cases r with
    | @lst _ _ vs _ q f b l ee=>
      rw [hl] at q;cases q;refine Ag0 (by simpa using l) λ i h1 h2=> ?_;have hi:i<n:=by simpa using h2
      have:=ee i ys[i] (.bl (G i)) (by simp [h1]) (by simp [hi]);cases hv:ys[i] <;> rw [hv] at this <;> cases this;simp
  rw [e] at hl;exact hd H' s hl
def JJ (P:Program) (w:World) (K:PySem.W.Frag) (mg:Str->Option Value) (base:Heap) (x:Str) (C:Addr) (k:Nat) (ps:List Str) (sp:Sp):Prop:=
  ∃ f fd,mg x=some (.ref C)/\Mk K C f/\FnOk P w K mg base CX0 k f fd ps sp/\Binds K fd ps []
def BW (P:Program) (w:World) (K:PySem.W.Frag) (mg:Str->Option Value) (base:Heap) (C:Addr) (m:Str) (k:Nat) (ps:List Str) (sp:Sp):Prop:=
  ∃ f fd,Cls K C/\Meth K C m f/\FnOk P w K mg base CX0 k f fd ps sp/\Binds K fd ps []
section
variable {X:Cx} {x m:Str} {C:Addr} {k:Nat} {ps:List Str} {sp:Sp} {o e:Expr} {es:List Expr} {t:TA} {ta:TE} {p pos apos:Pos}
theorem GS (h:JJ X.prog X.w X.K X.mg X.base x C k ps sp) (hr:Room (k+1) X.A) (ha:PA X (e::es) t) (hg:Gl X x:=by rfl) (hdb:(x == ("__debug__":Str))=false:=by decide)
    (he:starEach (e::es) X.env=(false,eval e X.env)::starEach es X.env:=by rfl) (hpl:(backTo pos (starEach es X.env)).any (·.1)=false:=by rfl):
    PE X (.Call (.Name x p) (e::es) [] pos) (Lj C sp [] E0 t):=by
  obtain ⟨f,fd,hm,M,F,hb⟩:=h;exact O7 M F hr hg hm hb .nil LB ha hdb he hpl
theorem Gj {pl:Sem Bool} (he:PE X o ta) (h:BW X.prog X.w X.K X.mg X.base C m k ps sp) (hr:Room k X.A) (ha:PA X (e::es) t)
    (hst:starEach (e::es) X.env=(false,eval e X.env)::starEach es X.env:=by rfl) (hpl:(backTo pos (starEach es X.env)).any (·.1)=false:=by rfl)
    (ht:eval (.Call (.Attribute o m apos) (e::es) [] pos) X.env=(do
      let ov <-eval o X.env
      standAt apos.atName
      let (f,first) <-holding [ov] (getMethod ov m pl)
      callWith pos f first (backTo pos (starEach (e::es) X.env)) (backToKw pos (keywordEach [] X.env))):=by rfl):
    PE X (.Call (.Attribute o m apos) (e::es) [] pos) (HZ C m sp [] E0 ta t):=by
  obtain ⟨f,fd,c,hm,F,hb⟩:=h;exact P8 (pl:=pl) he c hm F hr hb .nil LB ha hst hpl ht
theorem DC {pl:Sem Bool} (he:PE X o ta) (h:BW X.prog X.w X.K X.mg X.base C m k ps sp) (hr:Room k X.A)
    (ht:eval (.Call (.Attribute o m apos) [] [] pos) X.env=(do
      let ov <-eval o X.env
      standAt apos.atName
      let (f,first) <-holding [ov] (getMethod ov m pl)
      callWith pos f first (backTo pos (starEach [] X.env)) (backToKw pos (keywordEach [] X.env))):=by rfl):
    PE X (.Call (.Attribute o m apos) [] [] pos) (HZ C m sp [] E0 ta Ps):=by
  obtain ⟨f,fd,c,hm,F,hb⟩:=h;exact NQ (pl:=pl) he c hm F hr hb .nil LB ht
end
structure Kind (K:PySem.W.Frag) (C:Addr):Prop where
  cl:Cls K C
  ha:PySem.W.findIn K (.ref C) "__class__"=some (some (.builtin "object.__class__"))
  hn:PySem.W.specialIn K (.builtin "object.__class__") "__get__"=some (some (.builtin "getset_descriptor.__get__"))
  htk:PySem.W.takesIn K (.builtin "object.__class__")=some true
  hm:PySem.W.mroIn K C (.type "object")=some true
section
variable {K:PySem.W.Frag} {H:Hp} {Q:VK} {σ:St} {D:Ends} {te tv:TE} {t:TA} {a C dx:Addr} {fs:List (Str × V)} {f:Str} {v:V} {sp:Sp}
theorem RB (h:te σ H λ x H1=>∃ a C dx fs v,x= .ref a/\H1 a=some (.ins C dx fs)/\Cls K C/\NoAttr K C f/\fs.lookup f=some v/\Q v H1):SR K te f σ H Q:=h
theorem Sa (h:tv σ H λ y H1=>te σ H1 λ x H2=>∃ a C dx fs,x= .ref a/\H2 a=some (.ins C dx fs)/\Cls K C/\NoAttr K C f/\fs.length<1000/\D.nx σ (upd H2 a (.ins C dx (CK f y fs)))):Uk K te tv f D σ H:=h
theorem M9 {y:V} (e:H a=some (.ins C dx fs)) (c:Cls K C) (n:NoAttr K C f) (l:fs.length<1000) (h:D.nx σ (upd H a (.ins C dx (CK f y fs)))):∃ a' C' dx' fs',V.ref a= .ref a'/\H a'=some (.ins C' dx' fs')/\Cls K C'/\NoAttr K C' f/\fs'.length<1000/\D.nx σ (upd H a' (.ins C' dx' (CK f y fs'))):=⟨a,C,dx,fs,rfl,e,c,n,l,h⟩
theorem O6 (h:t σ H λ vs H1=>∀ x dx,H1 x=none->H1 dx=none->dx≠x->sp (.ref x::vs) (upd (upd H1 dx (.own x)) x (.ins C dx [])) (λ v H2=>v= .non/\Q (.ref x) H2) E0):Lj C sp [] E0 t σ H Q:=by
  unfold Lj;simpa using h
theorem Pc {m:Str} (h:te σ H λ x H1=>∃ a dx fs,x= .ref a/\H1 a=some (.ins C dx fs)/\fs.lookup m=none/\t σ H1 λ vs H2=>sp (x::vs) H2 Q E0):HZ C m sp [] E0 te t σ H Q:=by
  unfold HZ;simpa using h
end
theorem OB {r r':R2} {ta tb tc:TE} {σ:St} {H:Hp} {Q:VK} (h:ta σ H λ x H1=>tb σ H1 λ y H2=>r x y H2 λ z H3=>∃ k,z= .bl k/\(if k=true then tc σ H3 λ w' H4=>r' y w' H4 Q else Q (.bl false) H3)):N7 r r' ta tb tc σ H Q:=h
def Il (x:V) (a b:Int):Bool:=match x with | .int i=>decide (a<=i)&&decide (i<=b) | _=>false
theorem JK {b b':Bool} {Q:VK} {H:Hp} (e:b=b') (h:Q (.bl b') H):Q (.bl b) H:=e▸h
theorem Ko {b:Bool} {A B:Prop} (h1:b=true->A) (h2:b=false->B):if b=true then A else B:=by
  cases b with
  | true=>exact h1 rfl
  | false=>exact h2 rfl
theorem Oa {H:Hp} {x dx:Addr} {o:HO} {u:HO} (h1:H x=none) (h2:H dx=none):Same H (upd (upd H dx u) x o):=λ b q e=>by
  rw [Ak (Ap e h1),Ak (Ap e h2)];exact e
mutual
def eqD:Dt->Dt->Bool
  | .non, .non=>true
  | .bl a, .bl b=>a == b
  | .int a, .int b=>a == b
  | .str a, .str b=>a == b
  | .bl a, .int b=>(if a then 1 else 0) == b
  | .int a, .bl b=>a == (if b then 1 else 0)
  | .lst xs, .lst ys=>Df xs ys
  | .tup xs, .tup ys=>Df xs ys
  | _,_=>false
def Df:List Dt->List Dt->Bool
  | [],[]=>true
  | x::xs,y::ys=>eqD x y&&Df xs ys
  | _,_=>false
end
theorem BP:∀ {xs ys:List Dt},xs.length≠ys.length->Df xs ys=false
  | [],[],h=>absurd rfl h
  | [],_::_,_=>by unfold Df;rfl
  | _::_,[],_=>by unfold Df;rfl
  | x::xs,y::ys,h=>by
    unfold Df;rw [BP (xs:=xs) (ys:=ys) (λ e=>h (by simp [e])),Bool.and_false]
theorem BI:∀ {xs ys:List Dt},xs.length=ys.length->Df xs ys=(Aa5 xs.length).all λ i=>eqD (xs.getD i .non) (ys.getD i .non)
  | [],[],_=>by unfold Df;rfl
  | [],_::_,h=>by simp at h
  | _::_,[],h=>by simp at h
  | x::xs,y::ys,h=>by
    unfold Df;rw [BI (xs:=xs) (ys:=ys) (by simpa using h),Ad8,List.range_succ_eq_map,List.all_cons,List.all_map];rfl
mutual
theorem Cw:∀ d:Dt,eqD d d=true
  | .non=>by unfold eqD;rfl
  | .bl a=>by unfold eqD;simp
  | .int a=>by unfold eqD;simp
  | .str a=>by unfold eqD;simp
  | .lst xs=>by unfold eqD;exact Fa xs
  | .tup xs=>by unfold eqD;exact Fa xs
theorem Fa:∀ d:List Dt,Df d d=true
  | []=>by unfold Df;rfl
  | x::xs=>by unfold Df;rw [Cw x,Fa xs];rfl
end
theorem Rp.inj {H:Hp} {F G:Addr->Prop} {n m:Nat} {v:V} {d e:Dt} (r:Rp H F n v d) (r2:Rp H G m v e):d=e:=by
  induction r generalizing m e with
  | non=>cases r2;rfl
  | bl b=>cases r2;rfl
  | int i=>cases r2;rfl
  | str z=>cases r2;rfl
  | @lst n a vs ds h f b l el ih=>
    cases r2 with
    | @lst m _ vs2 ds2 h2 f2 b2 l2 el2=>
      rw [h] at h2;cases h2;congr 1;refine Ag0 (by omega) λ i h1 h3=> ?_;have hv:i<vs.length:=by omega
      exact ih i vs[i] ds[i] (by simp [hv]) (by simp [h1]) (el2 i vs[i] ds2[i] (by simp [hv]) (by simp [h3]))
    | tup h2 _ _ _=>rw [h] at h2;cases h2
  | @tup n a vs ds h b l el ih=>
    cases r2 with
    | @tup m _ vs2 ds2 h2 b2 l2 el2=>
      rw [h] at h2;cases h2;congr 1;refine Ag0 (by omega) λ i h1 h3=> ?_;have hv:i<vs.length:=by omega
      exact ih i vs[i] ds[i] (by simp [hv]) (by simp [h1]) (el2 i vs[i] ds2[i] (by simp [hv]) (by simp [h3]))
    | lst h2 _ _ _ _=>rw [h] at h2;cases h2
section
variable {X:Cx} {pins:List (Addr × Obj)} {σ:St} {H:Hp} {s:Shared}
theorem DA {F G:Addr->Prop} {n:Nat} {xs ys:List V} {ds es:List Dt} {its its2:List Value} {A:Around} (r:Vals xs its) (r2:Vals ys its2) (l1:xs.length=ds.length) (l2:ys.length=es.length)
    (el:∀ (i:Nat) (v:V) (d:Dt),xs[i]?=some v->ds[i]?=some d->Rp H F n v d) (el2:∀ (i:Nat) (v:V) (d:Dt),ys[i]?=some v->es[i]?=some d->Rp H G n v d)
    (ih:∀ {v u:V} {d e:Dt} {rv ru:Value},Rp H F n v d->Rp H G n u e->RelV v rv->RelV u ru->SeqAt.EqAt A s rv ru (eqD d e)):
    ∀ j (h1:j<its.toArray.size) (h2:j<its2.toArray.size),SeqAt.EqAt A s its.toArray[j] its2.toArray[j] (eqD (ds.getD j .non) (es.getD j .non)):=λ j h1 h2=>by
  have k1:=r.length;have k2:=r2.length;have h1':j<its.length:=by simpa using h1
  have h2':j<its2.length:=by simpa using h2
  have g1:xs[j]?=some (xs.getD j .non):=by rw [Aa0,Aa1 (by omega)];rfl
  have g2:ys[j]?=some (ys.getD j .non):=by rw [Aa0,Aa1 (by omega)];rfl
  have d1:ds[j]?=some (ds.getD j .non):=by rw [Aa0,Aa1 (by omega)];rfl
  have d2:es[j]?=some (es.getD j .non):=by rw [Aa0,Aa1 (by omega)];rfl
  obtain ⟨u,e1,ru⟩:=r.get g1;obtain ⟨u2,e2,ru2⟩:=r2.get g2;have q1:its.toArray[j]=u:=by rw [Aa1 h1'] at e1;simpa using Ae7.inj e1
  have q2:its2.toArray[j]=u2:=by rw [Aa1 h2'] at e2;simpa using Ae7.inj e2
  rw [q1,q2];exact ih (el j _ _ g1 d1) (el2 j _ _ g2 d2) ru ru2
theorem BG (A:Around):A.in1.units=A.units+1:=rfl
theorem II (I:Inv X pins σ H s) {F G:Addr->Prop}:∀ {n:Nat} {A:Around} {v u:V} {d e:Dt} {rv ru:Value},Rp H F n v d->Rp H G n u e->RelV v rv->RelV u ru->A.units+n<cLine->SeqAt.EqAt A s rv ru (eqD d e):=by
  intro n;have sc:∀ {n m:Nat} {A:Around} {v u:V} {d e:Dt} {rv ru:Value},Rp H F n v d->Rp H G m u e->(Fy d||Fl d)=false->(Fy e||Fl e)=false->RelV v rv->RelV u ru->SeqAt.EqAt A s rv ru (eqD d e):=by
    intro n m A v u d e rv ru r r2 n1 n2 rr rr2;cases r with
    | non=>
      cases rr;cases r2 with
      | non=>
        cases rr2;simp only [eqD];exact (show SeqAt.EqAt A s Value.none Value.none true from SeqAt.EqAt.same _)
      | bl x2=>
        cases rr2;simp only [eqD];exact SeqAt.EqAt.none_bool _
      | int x2=>
        obtain ⟨t2,rfl⟩:=rr2;simp only [eqD];exact SeqAt.EqAt.none_int _ _
      | str x2=>
        obtain ⟨t2,rfl⟩:=rr2;simp only [eqD];exact SeqAt.EqAt.none_str _ _
      | lst _ _ _ _ _=>cases n2
      | tup _ _ _ _=>cases n2
    | bl x1=>
      cases rr;cases r2 with
      | non=>
        cases rr2;simp only [eqD];exact SeqAt.EqAt.bool_none _
      | bl x2=>
        cases rr2;simp only [eqD];exact SeqAt.EqAt.bool_bool _ _
      | int x2=>
        obtain ⟨t2,rfl⟩:=rr2;simp only [eqD];exact SeqAt.EqAt.bool_int _ _ _
      | str x2=>
        obtain ⟨t2,rfl⟩:=rr2;simp only [eqD];exact SeqAt.EqAt.bool_str _ _ _
      | lst _ _ _ _ _=>cases n2
      | tup _ _ _ _=>cases n2
    | int x1=>
      obtain ⟨t1,rfl⟩:=rr;cases r2 with
      | non=>
        cases rr2;simp only [eqD];exact SeqAt.EqAt.int_none _ _
      | bl x2=>
        cases rr2;simp only [eqD];exact SeqAt.EqAt.int_bool _ _ _
      | int x2=>
        obtain ⟨t2,rfl⟩:=rr2;simp only [eqD];exact SeqAt.EqAt.int_int _ _ _ _
      | str x2=>
        obtain ⟨t2,rfl⟩:=rr2;simp only [eqD];exact SeqAt.EqAt.int_str _ _ _ _
      | lst _ _ _ _ _=>cases n2
      | tup _ _ _ _=>cases n2
    | str x1=>
      obtain ⟨t1,rfl⟩:=rr;cases r2 with
      | non=>
        cases rr2;simp only [eqD];exact SeqAt.EqAt.str_none _ _
      | bl x2=>
        cases rr2;simp only [eqD];exact SeqAt.EqAt.str_bool _ _ _
      | int x2=>
        obtain ⟨t2,rfl⟩:=rr2;simp only [eqD];exact SeqAt.EqAt.str_int _ _ _ _
      | str x2=>
        obtain ⟨t2,rfl⟩:=rr2;simp only [eqD];exact SeqAt.EqAt.str_str _ _ _ _
      | lst _ _ _ _ _=>cases n2
      | tup _ _ _ _=>cases n2
    | lst _ _ _ _ _=>cases n1
    | tup _ _ _ _=>cases n1
  induction n with
  | zero=>
    intro A v u d e rv ru r r2 rr rr2 hu;exact sc r r2 (by cases r <;> rfl) (by cases r2 <;> rfl) rr rr2
  | succ n ih=>
    intro A v u d e rv ru r r2 rr rr2 hu;have hu':A.units<cLine:=by omega
    cases h1:(Fy d||Fl d) with
    | false=>
      cases h2:(Fy e||Fl e) with
      | false=>exact sc r r2 h1 h2 rr rr2
      | true=>
        cases r2 with
        | @lst _ b ys es q2 f2 b2 l2 el2=>
          obtain rfl:ru=Value.ref b:=rr2;obtain ⟨its2,rv2,pl2,_⟩:=I.list (SqL.of q2);cases r with
          | non=>cases rr;simp only [eqD];exact SeqAt.EqAt.none_list pl2.isList hu'
          | bl x1=>cases rr;simp only [eqD];exact SeqAt.EqAt.bool_list _ pl2.isList hu'
          | int x1=>obtain ⟨t,rfl⟩:=rr;simp only [eqD];exact SeqAt.EqAt.int_list _ _ pl2.isList hu'
          | str x1=>obtain ⟨t,rfl⟩:=rr;simp only [eqD];exact SeqAt.EqAt.str_list _ _ pl2.isList hu'
          | lst _ _ _ _ _=>cases h1
          | tup _ _ _ _=>cases h1
        | @tup _ b ys es q2 b2 l2 el2=>
          obtain rfl:ru=Value.ref b:=rr2;obtain ⟨its2,rv2,pl2,_⟩:=I.tuple (SqT.of q2);have pl2:s.heap.IsTuple b its2.toArray:=pl2;cases r with
          | non=>cases rr;simp only [eqD];exact SeqAt.EqAt.none_tuple pl2 hu'
          | bl x1=>cases rr;simp only [eqD];exact SeqAt.EqAt.bool_tuple _ pl2 hu'
          | int x1=>obtain ⟨t,rfl⟩:=rr;simp only [eqD];exact SeqAt.EqAt.int_tuple _ _ pl2 hu'
          | str x1=>obtain ⟨t,rfl⟩:=rr;simp only [eqD];exact SeqAt.EqAt.str_tuple _ _ pl2 hu'
          | lst _ _ _ _ _=>cases h1
          | tup _ _ _ _=>cases h1
        | _=>cases h2
    | true=>
      cases r with
      | @lst _ a xs ds q1 f1 b1 l1 el1=>
        obtain rfl:rv=Value.ref a:=rr;obtain ⟨its,rv1,pl,_⟩:=I.list (SqL.of q1);have k1:=rv1.length;cases r2 with
        | @lst _ b ys es q2 f2 b2 l2 el2=>
          obtain rfl:ru=Value.ref b:=rr2;obtain ⟨its2,rv2,pl2,_⟩:=I.list (SqL.of q2);have k2:=rv2.length;by_cases hab:a=b
          · subst hab;have e:=(Rp.lst (n:=n) q1 f1 b1 l1 el1).inj (Rp.lst (n:=n) q2 f2 b2 l2 el2);rw [e,Cw];exact SeqAt.EqAt.same _
          · refine SeqAt.EqAt.of_refs hab ?_;simp only [eqD];by_cases hl:ds.length=es.length
            · rw [BI hl];have q:=SeqAt.RcAt.lists (A:=A) (e:=λ i=>eqD (ds.getD i .non) (es.getD i .non)) pl.isList pl2.isList (by simp;omega) hu' (DA rv1 rv2 l1 l2 el1 el2 λ r r2 rr rr2=>ih r r2 rr rr2 (by rw [BG];omega));rw [show its.toArray.size=ds.length by simp;omega] at q;exact q
            · rw [BP hl];exact SeqAt.RcAt.lists_lengths pl.isList pl2.isList (by simp;omega) hu'
        | @tup _ b ys es q2 b2 l2 el2=>
          obtain rfl:ru=Value.ref b:=rr2;obtain ⟨its2,rv2,pl2,_⟩:=I.tuple (SqT.of q2);simp only [eqD];exact SeqAt.EqAt.list_tuple pl.isList (show s.heap.IsTuple b its2.toArray from pl2) hu'
        | non=>cases rr2;simp only [eqD];exact SeqAt.EqAt.list_none pl.isList hu'
        | bl x1=>cases rr2;simp only [eqD];exact SeqAt.EqAt.list_bool _ pl.isList hu'
        | int x1=>obtain ⟨t,rfl⟩:=rr2;simp only [eqD];exact SeqAt.EqAt.list_int _ _ pl.isList hu'
        | str x1=>obtain ⟨t,rfl⟩:=rr2;simp only [eqD];exact SeqAt.EqAt.list_str _ _ pl.isList hu'
      | @tup _ a xs ds q1 b1 l1 el1=>
        obtain rfl:rv=Value.ref a:=rr;obtain ⟨its,rv1,pl,_⟩:=I.tuple (SqT.of q1);have pl:s.heap.IsTuple a its.toArray:=pl;have k1:=rv1.length;cases r2 with
        | @tup _ b ys es q2 b2 l2 el2=>
          obtain rfl:ru=Value.ref b:=rr2;obtain ⟨its2,rv2,pl2,_⟩:=I.tuple (SqT.of q2);have pl2:s.heap.IsTuple b its2.toArray:=pl2;have k2:=rv2.length;by_cases hab:a=b
          · subst hab;have e:=(Rp.tup (n:=n) (F:=F) q1 b1 l1 el1).inj (Rp.tup (n:=n) (F:=G) q2 b2 l2 el2);rw [e,Cw];exact SeqAt.EqAt.same _
          · refine SeqAt.EqAt.of_refs hab ?_;simp only [eqD];have q:=SeqAt.RcAt.tuples (A:=A) (e:=λ i=>eqD (ds.getD i .non) (es.getD i .non)) pl pl2 hu' (DA rv1 rv2 l1 l2 el1 el2 λ r r2 rr rr2=>ih r r2 rr rr2 (by rw [BG];omega));have e1:its.toArray.size=ds.length:=by simp;omega
            have e2:its2.toArray.size=es.length:=by simp;omega
            rw [e1,e2] at q;by_cases hl:ds.length=es.length
            · rw [BI hl];rw [<-hl,Nat.min_self,beq_self_eq_true,Bool.and_true] at q;exact q
            · rw [BP hl];rw [beq_eq_false_iff_ne.mpr hl,Bool.and_false] at q;exact q
        | @lst _ b ys es q2 f2 b2 l2 el2=>
          obtain rfl:ru=Value.ref b:=rr2;obtain ⟨its2,rv2,pl2,_⟩:=I.list (SqL.of q2);simp only [eqD];exact SeqAt.EqAt.tuple_list pl pl2.isList hu'
        | non=>cases rr2;simp only [eqD];exact SeqAt.EqAt.tuple_none pl hu'
        | bl x1=>cases rr2;simp only [eqD];exact SeqAt.EqAt.tuple_bool _ pl hu'
        | int x1=>obtain ⟨t,rfl⟩:=rr2;simp only [eqD];exact SeqAt.EqAt.tuple_int _ _ pl hu'
        | str x1=>obtain ⟨t,rfl⟩:=rr2;simp only [eqD];exact SeqAt.EqAt.tuple_str _ _ pl hu'
      | _=>cases h1
def W5 (neg:Bool):R2:=λ x y H Q=>∃ (n:Nat) (d e:Dt),n<=30/\Rp H FT n x d/\Rp H FT n y e/\(Fy d&&Fy e||Fl d&&Fl e)=true/\Q (.bl (if neg then !eqD d e else eqD d e)) H
theorem Sw (hu:X.A.units+64<cLine):OpR X (compareOp .Eq) (W5 false):=by
  intro pins s σ H x y v u Q I rx ry h;obtain ⟨n,d,e,hn,r,r2,hs,q⟩:=h;cases r with
  | @lst m a xs ds q1 f1 b1 l1 el1=>
    cases r2 with
    | @lst _ b ys es q2 f2 b2 l2 el2=>
      obtain rfl:v=Value.ref a:=rx;obtain rfl:u=Value.ref b:=ry;obtain ⟨its,rv1,pl,_⟩:=I.list (SqL.of q1);obtain ⟨its2,rv2,pl2,_⟩:=I.list (SqL.of q2);have k1:=rv1.length;have k2:=rv2.length;have q:Q (.bl (Df ds es)) H:=by
        have q:=q;unfold eqD at q;exact q
      by_cases hl:ds.length=es.length
      · refine SeqAt.eq_listAt (e:=λ i=>eqD (ds.getD i .non) (es.getD i .non)) pl.isList pl2.isList (by simp;omega) (by omega) (DA rv1 rv2 l1 l2 el1 el2 λ r r2 rr rr2=>II I r r2 rr rr2 (by rw [BG];omega)) ⟨.bl _,H,I,rfl,?_⟩;rw [show its.toArray.size=ds.length by simp;omega, <-BI hl];exact q
      · refine SeqAt.eq_list_lengthsAt pl.isList pl2.isList (by simp;omega) (by omega) ⟨.bl _,H,I,rfl,?_⟩;rw [<-BP hl];exact q
    | _=>cases hs
  | @tup m a xs ds q1 b1 l1 el1=>
    cases r2 with
    | @tup _ b ys es q2 b2 l2 el2=>
      obtain rfl:v=Value.ref a:=rx;obtain rfl:u=Value.ref b:=ry;obtain ⟨its,rv1,pl,_⟩:=I.tuple (SqT.of q1);obtain ⟨its2,rv2,pl2,_⟩:=I.tuple (SqT.of q2);have k1:=rv1.length;have k2:=rv2.length;have q:Q (.bl (Df ds es)) H:=by
        have q:=q;unfold eqD at q;exact q
      refine SeqAt.eq_tupleAt (e:=λ i=>eqD (ds.getD i .non) (es.getD i .non)) (show s.heap.IsTuple a its.toArray from pl) (show s.heap.IsTuple b its2.toArray from pl2) (by omega) (DA rv1 rv2 l1 l2 el1 el2 λ r r2 rr rr2=>II I r r2 rr rr2 (by rw [BG];omega)) ⟨.bl _,H,I,rfl,?_⟩;have e1:its.toArray.size=ds.length:=by simp;omega
      have e2:its2.toArray.size=es.length:=by simp;omega
      rw [e1,e2];by_cases hl:ds.length=es.length
      · rw [<-hl,Nat.min_self,beq_self_eq_true,Bool.and_true, <-BI hl];exact q
      · rw [beq_eq_false_iff_ne.mpr hl,Bool.and_false, <-BP hl];exact q
    | _=>cases hs
  | _=>cases hs
theorem NI (hu:X.A.units+64<cLine):OpR X (compareOp .NotEq) (W5 true):=by
  intro pins s σ H x y v u Q I rx ry h;obtain ⟨n,d,e,hn,r,r2,hs,q⟩:=h;cases r with
  | @lst m a xs ds q1 f1 b1 l1 el1=>
    cases r2 with
    | @lst _ b ys es q2 f2 b2 l2 el2=>
      obtain rfl:v=Value.ref a:=rx;obtain rfl:u=Value.ref b:=ry;obtain ⟨its,rv1,pl,_⟩:=I.list (SqL.of q1);obtain ⟨its2,rv2,pl2,_⟩:=I.list (SqL.of q2);have k1:=rv1.length;have k2:=rv2.length;have q:Q (.bl (!Df ds es)) H:=by
        have q:=q;unfold eqD at q;exact q
      by_cases hl:ds.length=es.length
      · refine SeqAt.RcNeAt.lists (e:=λ i=>eqD (ds.getD i .non) (es.getD i .non)) pl.isList pl2.isList (by simp;omega) (by omega) (DA rv1 rv2 l1 l2 el1 el2 λ r r2 rr rr2=>II I r r2 rr rr2 (by rw [BG];omega)) _ _ _ _ ⟨.bl _,H,I,rfl,?_⟩;rw [show its.toArray.size=ds.length by simp;omega, <-BI hl];exact q
      · refine SeqAt.RcNeAt.lists_lengths pl.isList pl2.isList (by simp;omega) (by omega) _ _ _ _ ⟨.bl _,H,I,rfl,?_⟩;rw [BP hl] at q;exact q
    | _=>cases hs
  | @tup m a xs ds q1 b1 l1 el1=>
    cases r2 with
    | @tup _ b ys es q2 b2 l2 el2=>
      obtain rfl:v=Value.ref a:=rx;obtain rfl:u=Value.ref b:=ry;obtain ⟨its,rv1,pl,_⟩:=I.tuple (SqT.of q1);obtain ⟨its2,rv2,pl2,_⟩:=I.tuple (SqT.of q2);have k1:=rv1.length;have k2:=rv2.length;have q:Q (.bl (!Df ds es)) H:=by
        have q:=q;unfold eqD at q;exact q
      refine SeqAt.RcNeAt.tuples (e:=λ i=>eqD (ds.getD i .non) (es.getD i .non)) (show s.heap.IsTuple a its.toArray from pl) (show s.heap.IsTuple b its2.toArray from pl2) (by omega) (DA rv1 rv2 l1 l2 el1 el2 λ r r2 rr rr2=>II I r r2 rr rr2 (by rw [BG];omega)) _ _ _ _ ⟨.bl _,H,I,rfl,?_⟩;have e1:its.toArray.size=ds.length:=by simp;omega
      have e2:its2.toArray.size=es.length:=by simp;omega
      rw [e1,e2];by_cases hl:ds.length=es.length
      · rw [<-hl,Nat.min_self,beq_self_eq_true,Bool.and_true, <-BI hl];exact q
      · rw [beq_eq_false_iff_ne.mpr hl,Bool.and_false, <-BP hl];exact q
    | _=>cases hs
  | _=>cases hs
def TJ (K:PySem.W.Frag) (ta tb:TE):TE:=λ σ H Q=>ta σ H λ x H1=>∃ k,O2 K x H1 k/\if k=true then Q x H1 else tb σ H1 Q
theorem Sx {K:PySem.W.Frag} {a b:Expr} {Bm:List Expr} {pos:Pos} {ta tb:TE} (ha:PE X a ta) (hb:PE X (.BoolOp .Or (b::Bm) pos) tb) (hK:X.K=K:=by rfl):PE X (.BoolOp .Or (a::b::Bm) pos) (TJ K ta tb):=by
  subst hK;intro pins s σ H Q I h;refine BoolOp_or (thn (ha pins s σ H _ I h) λ v s1 ⟨x,H1,I1,r1,q1⟩=> ?_);obtain ⟨k,t,q1⟩:=q1;refine thn (R0 pins s1 σ H1 x v (λ b H2=>b=k/\H2=H1) I1 r1 ⟨k,t,rfl,rfl⟩) λ b s2 ⟨H2,I2,eb,eh⟩=> ?_;subst eb eh;cases b with
  | true=>exact ⟨x,H2,I2,r1,q1⟩
  | false=>exact hb pins s2 σ H2 Q I2 q1
theorem RO {K:PySem.W.Frag} {ta tb:TE} {σ:St} {H:Hp} {Q:VK} (h:ta σ H λ x H1=>∃ k,O2 K x H1 k/\if k=true then Q x H1 else tb σ H1 Q):TJ K ta tb σ H Q:=h
theorem Xk {K:PySem.W.Frag} {H:Hp} {p:Addr} {xs:List V} {R:Bool->Prop} (c:SqL K H p xs) (h:R (!xs.isEmpty)):∃ k,O2 K (.ref p) H k/\R k:=⟨_, .inl ⟨xs,c,rfl⟩,h⟩
end
end L2
namespace L2
open PySem PySem.Spec PyProof.Rows
abbrev dN (n:Nat):Dt:= .int (n:Nat)
def dL (ns:List Nat):Dt:= .lst (ns.map dN)
def dT (ns:List Nat):Dt:= .tup (ns.map dN)
def dS (zs:List Str):Dt:= .lst (zs.map .str)
section
variable {H:Hp} {F:Addr->Prop} {n:Nat} {v:V}
theorem NA {α:Type} {f:α->V} {g:α->Dt} (uniq:∀ (a:α) (v:V),Rp H F n v (g a)->v=f a) {vs:List V} {as:List α} (l:vs.length=(as.map g).length)
    (e:∀ (i:Nat) (v:V) (d:Dt),vs[i]?=some v->(as.map g)[i]?=some d->Rp H F n v d):vs=as.map f:=by
  refine Ag0 (by simpa using l) λ i h1 h2=> ?_;have h3:i<as.length:=by simpa using h2
  rw [List.getElem_map];exact uniq _ _ (e i vs[i] (g as[i]) (by simp [h1]) (by simp [h3]))
theorem SK (a:Nat) (v:V) (r:Rp H F n v (dN a)):v=nV a:=by cases r;rfl
theorem Qy {ns:List Nat} (r:Rp H F n v (dL ns)):∃ a,v= .ref a/\H a=some (.lst (ns.map nV))/\F a/\ns.length<=100000:=by
  unfold dL at r;cases r with
  | @lst m a vs _ h f b l e=>
    have q:=NA (f:=nV) (λ a v r=>SK a v r) l e;subst q;exact ⟨a,rfl,h,f,by simpa using b⟩
theorem Rv {ds:List Dt} (r:Rp H F n v (.lst ds)):∃ m a vs,n=m+1/\v= .ref a/\H a=some (.lst vs)/\F a/\vs.length=ds.length/\vs.length<=100000/\∀ i,i<ds.length->Rp H F m (vs.getD i .non) (ds.getD i .non):=by
  cases r with
  | @lst m a vs _ h f b l e=>
    refine ⟨m,a,vs,rfl,rfl,h,f,l,b,λ i hi=>e i _ _ ?_ ?_⟩
    · rw [Aa0,Aa1 (by omega)];rfl
    · rw [Aa0,Aa1 hi];rfl
theorem Nb {ds:List Dt} (r:Rp H F n v (.tup ds)):∃ m a vs,n=m+1/\v= .ref a/\H a=some (.tup vs)/\vs.length=ds.length/\vs.length<=100000/\∀ i,i<ds.length->Rp H F m (vs.getD i .non) (ds.getD i .non):=by
  cases r with
  | @tup m a vs _ h b l e=>
    refine ⟨m,a,vs,rfl,rfl,h,l,b,λ i hi=>e i _ _ ?_ ?_⟩
    · rw [Aa0,Aa1 (by omega)];rfl
    · rw [Aa0,Aa1 hi];rfl
theorem Nk {α β:Type} (f:α->β) (as:List α) (i:Nat) (x:β) (y:α) (h:i<as.length):(as.map f).getD i x=f (as.getD i y):=by simp [Aa0,h]
theorem getD_mem {α:Type} {as:List α} {i:Nat} {y:α} (h:i<as.length):as.getD i y∈as:=by
  rw [Aa0,Aa1 h];exact Ad9 h
end
def But (x:Addr) (H H':Hp):Prop:=∀ b o,H b=some o->b≠x->H' b=some o
theorem But.of {x:Addr} {H H1:Hp} (s:Same H H1):But x H H1:=λ a o e _=>s _ _ e
section
variable {H:Hp} {a:Addr} {kvs:List (Key × V)}
end
theorem OC {xs:List V} {k:Int} (h:0<=k):GC xs (some k) none=xs.drop k.toNat:=by
  unfold GC;have e2:HT.sIx xs.length xs.length none=xs.length:=rfl;rw [e2];have e1:HT.sIx xs.length 0 (some k)=min k.toNat xs.length:=by
    unfold HT.sIx;simp only;split <;> omega
  rw [e1];by_cases q:k.toNat<=xs.length
  · rw [Nat.min_eq_left q,Ah7 (by simp)]
  · rw [Nat.min_eq_right (by omega),List.drop_of_length_le (Aa6 _),List.drop_of_length_le (by omega)];simp
theorem SZ {xs:List V} {k:Int} (h:0<=k):GC xs none (some k)=xs.take k.toNat:=by
  unfold GC;have e2:HT.sIx xs.length 0 none=0:=rfl;rw [e2,List.drop_zero];have e1:HT.sIx xs.length xs.length (some k)=min k.toNat xs.length:=by
    unfold HT.sIx;simp only;split <;> omega
  rw [e1,Nat.sub_zero];by_cases q:k.toNat<=xs.length
  · rw [Nat.min_eq_left q]
  · rw [Nat.min_eq_right (by omega),Ah7 (Aa6 _),Ah7 (by omega)]
section
variable {K:PySem.W.Frag} {wi:TI} {own:List Str} {fr:List (Str × Nat)} {g:TG} {tc:TT} {te tl:TE} {tb:TS} {D:Ends} {σ:St} {H:Hp} {Q:VK} {R:It->Hp->Prop} {ta:TA}
theorem Pp (h:wi σ H λ J H1=>∀ D,H1 D=none->DK J (BD own fr σ) g tc te Q H1 D):DN wi own fr g tc te σ H Q:=h
theorem SY (h:wi σ H λ J H1=>∃ W:Nat->Nat->St->Hp->Prop,(∃ m,W 0 m σ H1)/\∀ i m σ H,W i m σ H->
  (J.stop i H/\D.nx σ H)\/(J.go i H/\∃ N:St->Hp->Prop,(∀ σ' H',N σ' H'->∃ m',m'<m/\W (i+1) m' σ' H')/\∀ x H',J.yld i H x H'->g x σ H' λ σ2 H2=>tb { D with nx:=N,ct:=N,bk:=D.nx } σ2 H2)):Vv wi g tb D σ H:=h
theorem WY (h:tl σ H λ x H1=>∃ a,x= .ref a/\(∃ xs,SqL K H1 a xs)/\R (Itl K a) H1):NM K tl σ H R:=h
theorem UX (h:tl σ H λ x H1=>∃ a,x= .ref a/\(∃ xs,SqT K H1 a xs)/\R (Itt K a) H1):R7 K tl σ H R:=h
theorem Wh (h:tl σ H λ x H1=>∃ tp a,x= .ref a/\(∃ xs,SqS tp K H1 a xs)/\R (Isq tp K a) H1):iSq K tl σ H R:=h
theorem Wa (h:ta σ H λ vs H1=>∃ a,vs=[.ref a]/\(∃ xs,SqL K H1 a xs)/\R (Ite K a) H1):QV K ta σ H R:=h
theorem U5 (h:ta σ H λ vs H1=>∃ tp a,vs=[.ref a]/\(∃ xs,SqS tp K H1 a xs)/\R (MX tp K a) H1):Ng K ta σ H R:=h
theorem VE (h:ta σ H λ vs H1=>∃ j:Int,vs=[.int j]/\ -(2 ^ 62)<=j/\j<2 ^ 62/\R (Itr 0 j.toNat) H1):QD ta σ H R:=h
theorem Vt (h:ta σ H λ vs H1=>∃ i j:Int,vs=[.int i, .int j]/\(-(2 ^ 62)<=i/\i<2 ^ 62/\ -(2 ^ 62)<=j/\j<2 ^ 62)/\R (Itr i (j - i).toNat) H1):QL ta σ H R:=h
end
theorem Qc {K:PySem.W.Frag} {n:Nat} {t:TGs} {a:Addr} {xs:List V} {σ:St} {H:Hp} {QS:St->Hp->Prop} (h:SqT K H a xs) (l:xs.length=n) (k:t xs σ H QS):E8 K n t (.ref a) σ H QS:=⟨a,xs,rfl,h,l,k⟩
theorem N6 {t:TG} {u:TGs} {v:V} {vs:List V} {σ:St} {H:Hp} {QS:St->Hp->Prop} (k:t v σ H λ σ' H'=>u vs σ' H' QS):A0 t u (v::vs) σ H QS:=⟨v,vs,rfl,k⟩
theorem Qn {σ:St} {H:Hp} {QS:St->Hp->Prop} (k:QS σ H):FC [] σ H QS:=⟨rfl,k⟩
theorem AH {J:It} {g:TG} {H0 H:Hp} {n:Nat} {set:Nat->St->St} {tb:TS} {D:Ends} {σ:St} (S:FSrc J g H0 n set) (Pv:Nat->St->Hp->Prop) (h0:Pv 0 σ H) (hk:∀ i σ H',Pv i σ H'->Same H0 H')
    (hs:∀ i σ H' H3,i<n->Pv i σ H'->Same H' H3->tb { D with nx:=Pv (i+1),ct:=Pv (i+1),bk:=D.nx } (set i σ) H3) (hd:∀ σ H',Pv n σ H'->D.nx σ H'):
    ∃ W:Nat->Nat->St->Hp->Prop,(∃ m,W 0 m σ H)/\∀ i m σ H,W i m σ H->
      (J.stop i H/\D.nx σ H)\/(J.go i H/\∃ N:St->Hp->Prop,(∀ σ' H',N σ' H'->∃ m',m'<m/\W (i+1) m' σ' H')/\∀ x H',J.yld i H x H'->g x σ H' λ σ2 H2=>tb { D with nx:=N,ct:=N,bk:=D.nx } σ2 H2):=by
  refine ⟨λ i m σ H'=>m=n - i/\i<=n/\Pv i σ H',⟨n,by simp,Ad3 _,h0⟩,?_⟩;rintro i m σ H1 ⟨rfl,hi,p⟩;by_cases hlt:i<n
  · exact .inr ⟨S.go i H1 hlt (hk _ _ _ p),Pv (i+1),λ σ' H' p'=>⟨n - (i+1),by omega,rfl,hlt,p'⟩,λ x H' y=>S.yld i σ H1 x H' _ hlt (hk _ _ _ p) y λ H3 s3=>hs i σ H1 H3 hlt p s3⟩
  · have e:i=n:=by omega
    subst e;exact .inl ⟨S.stop H1 (hk _ _ _ p),hd σ H1 p⟩
theorem A1 {H:Hp} {i1 n:Nat}:FSrc (Itr 0 n) (Ax i1) H n (λ i σ=>σ.set i1 (some (.int (i:Nat)))):=by
  have:=NZ (H:=H) (i1:=i1) (lo:=0) (n:=n);simpa using this
theorem BU {n:Nat} {σ0:St} {H:Hp} (h0:σ0[0]?=some none):SrcOk (Itr 0 n) (Ax 0) σ0 H n (λ i=>σ0.set 0 (some (.int (i:Nat)))):=by
  have:=HU (H:=H) (lo:=0) (n:=n) h0;simpa using this
theorem Xw {H:Hp} {F:Addr->Prop} {n:Nat} {a:Addr} {x y:V} {d e:Dt} (h:H a=some (.lst [x,y])) (f:F a) (r1:Rp H F n x d) (r2:Rp H F n y e):Rp H F (n+1) (.ref a) (.lst [d,e]):=by
  refine .lst h f (by simp) rfl λ i v u h1 h2=> ?_
  match i with
  | 0=>cases h1;cases h2;exact r1
  | 1=>cases h1;cases h2;exact r2
  | i+2=>cases h1
theorem B9 {H:Hp} {F:Addr->Prop} {n:Nat} {a:Addr} {x y:V} {d e:Dt} (h:H a=some (.tup [x,y])) (r1:Rp H F n x d) (r2:Rp H F n y e):Rp H F (n+1) (.ref a) (.tup [d,e]):=by
  refine .tup h (by simp) rfl λ i v u h1 h2=> ?_
  match i with
  | 0=>cases h1;cases h2;exact r1
  | 1=>cases h1;cases h2;exact r2
  | i+2=>cases h1
theorem MY {A B:Prop} (h:B):if (!true)=true then A else B:=by simpa using h
theorem PD (s:Nat) (ns:List Nat):inV (nV s) (ns.map nV)=decide (s∈ns):=by
  unfold inV;rw [Ae2,List.any_eq_true,decide_eq_true_eq];constructor
  · rintro ⟨y,hy,e⟩;obtain ⟨k,hk,rfl⟩:=Ab2.mp hy;have e:((k:Nat):Int)=(s:Nat):=by simpa [eqV] using e
    have:k=s:=by omega
    exact this▸hk
  · intro h;exact ⟨nV s,Ab2.mpr ⟨s,h,rfl⟩,by simp [eqV]⟩
theorem Oi (ns:List Nat):(ns.map nV).all Bq=true:=by simp [Bq]
theorem Ru {K:PySem.W.Frag} {H:Hp} {Q:VK} {tp:Bool} {p:Addr} {s:Nat} {ns:List Nat} (c:SqS tp K H p (ns.map nV)) (h:Q (.bl (decide (s∈ns))) H):rIn K false (nV s) (.ref p) H Q:=by
  refine ⟨p,_,rfl,?_,rfl,Oi ns,by rw [PD];exact h⟩;cases tp with
  | false=>exact .inl c
  | true=>exact .inr c
end L2
namespace L2
theorem getD_el {α:Type} {as:List α} {i:Nat} {y:α} (h:i<as.length):as.getD i y=as[i]:=by
  rw [Aa0,Aa1 h];rfl
end L2
namespace L2
open PySem PySem.Spec PyProof.Rows
theorem QM {f:Nat->Bool} {w:Nat} (h:f w=true):MM.ofB f (w+1)=MM.ofB f w+2 ^ w:=by
  show MM.ofB f w+(f w).toNat*2 ^ w=_;rw [h,Bool.toNat_true,Nat.one_mul]
theorem QJ {f:Nat->Bool} {w:Nat} (h:f w=false):MM.ofB f (w+1)=MM.ofB f w:=by
  show MM.ofB f w+(f w).toNat*2 ^ w=_;rw [h,Bool.toNat_false,Nat.zero_mul,Nat.add_zero]
def TK (i j:Int):Prop:=0<j/\j<2 ^ 200
theorem Me {j:Int} (h0:0<j) (h:j<2 ^ 200):j.natAbs.log2<9000:=by
  have h1:j.natAbs<2 ^ 200:=by omega
  have:=(Nat.log2_lt (show j.natAbs≠0 by omega)).mpr h1;omega
theorem Gs {X:Cx}:OpR X (binaryOp .FloorDiv) (rI TK λ i j=> .int (i / j)):=opI λ i j _ _ _ _ _ hc q=>by
  rw [<-Int.fdiv_eq_ediv_of_nonneg i (by have:=hc.1;omega)] at q;exact floordiv_int (by have:=hc.1;omega) q (.inl (PyProof.noPylong_of_log2 (Me hc.1 hc.2)))
section
variable {prog:Program} {w:World} {A:Around} {E:Value->Shared->Prop} {s:Shared} {T:String} {r d:Addr} {n:Nat} {P:Nat->Value->Prop} {St:Nat->Heap->Prop}
end
section
variable {prog:Program} {w:World} {A:Around} {E:Value->Shared->Prop} {s:Shared}
end
section
variable {X:Cx} {K:PySem.W.Frag} {e o:Expr} {ta:TA} {to:TE} {p p2 pos pos2 apos cpos:Pos}
end
section
variable {X:Cx} {K:PySem.W.Frag} {e o:Expr} {es:List Expr} {ta to:TE} {t:TA} {f name:Str} {pos apos cpos:Pos} {T id:String} {r:V->List V->Hp->VK->Prop}
theorem GA (he:PE X e ta) (hb:attributeBase e f X.env (eval e X.env)=eval e X.env) (hK:X.K=K:=by rfl):PE X (.Attribute e f pos) (SR K ta f):=by
  subst hK;exact SH he hb
theorem Se (pa:PlainAttrs T) (slot:Slot T name id) (hty:typeOf (.builtin id)=pure (.type "method_descriptor")) (hm:MtR X id r) (ho:PE X o to) (hK:X.K=K:=by rfl)
    (hbase:attributeBase o name X.env (eval o X.env)=eval o X.env:=by rfl) (hline:(apos.endLine == cpos.line)=true:=by rfl):PE X (.Call (.Attribute o name apos) [] [] cpos) (S6 K T r to):=by
  subst hK;exact Ry pa slot hty hm ho hbase hline
theorem Cr (pa:PlainAttrs T) (slot:Slot T name id) (hty:typeOf (.builtin id)=pure (.type "method_descriptor")) (hm:MtR X id r) (ho:PE X o to) (ha:PA X (e::es) t) (hK:X.K=K:=by rfl)
    (hbase:attributeBase o name X.env (eval o X.env)=eval o X.env:=by rfl)
    (hfew:((backTo cpos (starEach (e::es) X.env)).all (λ x=> !x.1)&&(backToKw cpos (keywordEach [] X.env)).all (λ x=>x.1.isSome)
      && decide ((e::es).length+([]:List Keyword).length+(if ([]:List Keyword).isEmpty then 0 else 1)<30))=true:=by rfl)
    (hline:(apos.endLine == cpos.line)=true:=by rfl) (hs:starEach (e::es) X.env=(false,eval e X.env)::starEach es X.env:=by rfl) (hplain:(backTo cpos (starEach es X.env)).any (·.1)=false:=by rfl):
    PE X (.Call (.Attribute o name apos) (e::es) [] cpos) (tBM K T r to t):=by
  subst hK;exact Va pa slot hty hm ho ha hbase hfew hline hs hplain
end
section
variable {prog:Program} {w:World} {A:Around} {E:Value->Shared->Prop} {s:Shared}
end
section
variable {X:Cx} {K:PySem.W.Frag} {e o:Expr} {ta:TA} {to:TE} {p p2 pos pos2 apos cpos:Pos}
end
def Vm (P:Program) (w:World) (K:PySem.W.Frag) (mg:Str->Option Value) (base:Heap) (k:Nat) (f:Addr) (sp:Sp):Prop:=
  ∃ fd ps,PySem.W.keepIn K (.ref f)=true/\FnOk P w K mg base CX0 k f fd ps sp/\Binds K fd ps []
theorem CallF.val {P:Program} {w:World} {K:PySem.W.Frag} {mg:Str->Option Value} {base:Heap} {x:Str} {k:Nat} {ps:List Str} {sp:Sp} (h:CallF P w K mg base x k ps sp):∃ f,mg x=some (.ref f)/\Vm P w K mg base k f sp:=
  let ⟨f,fd,hm,hk,F,hb⟩:=h;⟨f,hm,fd,ps,hk,F,hb⟩
section
variable {X:Cx} {k:Nat} {e o:Expr} {es:List Expr} {t:TA} {to:TE} {pos:Pos} {S:Addr->Sp->Prop}
end
theorem arg1 {α:Type} {P:List α->Prop} (h:∀ a0,P [a0]):∀ us:List α,us.length=1->P us:=λ us hl=>match us,hl with | [a0],_=>h a0
theorem arg2 {α:Type} {P:List α->Prop} (h:∀ a0 a1,P [a0,a1]):∀ us:List α,us.length=2->P us:=λ us hl=>match us,hl with | [a0,a1],_=>h a0 a1
theorem arg3 {α:Type} {P:List α->Prop} (h:∀ a0 a1 a2,P [a0,a1,a2]):∀ us:List α,us.length=3->P us:=λ us hl=>match us,hl with | [a0,a1,a2],_=>h a0 a1 a2
theorem arg4 {α:Type} {P:List α->Prop} (h:∀ a0 a1 a2 a3,P [a0,a1,a2,a3]):∀ us:List α,us.length=4->P us:=λ us hl=>match us,hl with | [a0,a1,a2,a3],_=>h a0 a1 a2 a3
theorem arg5 {α:Type} {P:List α->Prop} (h:∀ a0 a1 a2 a3 a4,P [a0,a1,a2,a3,a4]):∀ us:List α,us.length=5->P us:=λ us hl=>match us,hl with | [a0,a1,a2,a3,a4],_=>h a0 a1 a2 a3 a4
theorem arg6 {α:Type} {P:List α->Prop} (h:∀ a0 a1 a2 a3 a4 a5,P [a0,a1,a2,a3,a4,a5]):∀ us:List α,us.length=6->P us:=λ us hl=>match us,hl with | [a0,a1,a2,a3,a4,a5],_=>h a0 a1 a2 a3 a4 a5
theorem arg7 {α:Type} {P:List α->Prop} (h:∀ a0 a1 a2 a3 a4 a5 a6,P [a0,a1,a2,a3,a4,a5,a6]):∀ us:List α,us.length=7->P us:=λ us hl=>match us,hl with | [a0,a1,a2,a3,a4,a5,a6],_=>h a0 a1 a2 a3 a4 a5 a6
theorem arg8 {α:Type} {P:List α->Prop} (h:∀ a0 a1 a2 a3 a4 a5 a6 a7,P [a0,a1,a2,a3,a4,a5,a6,a7]):∀ us:List α,us.length=8->P us:=λ us hl=>match us,hl with | [a0,a1,a2,a3,a4,a5,a6,a7],_=>h a0 a1 a2 a3 a4 a5 a6 a7
theorem arg9 {α:Type} {P:List α->Prop} (h:∀ a0 a1 a2 a3 a4 a5 a6 a7 a8,P [a0,a1,a2,a3,a4,a5,a6,a7,a8]):∀ us:List α,us.length=9->P us:=λ us hl=>match us,hl with | [a0,a1,a2,a3,a4,a5,a6,a7,a8],_=>h a0 a1 a2 a3 a4 a5 a6 a7 a8
theorem Jl {M:Model} {A:Around} {E:Value->Shared->Prop} {s:Shared} {scope:Scope} {globals:Addr} {closure:List (Str × Addr)} {qual:Str} {outer:Env} {cx:Str} {Q:Env->Shared->Prop}
    (hc1:∀ n cl,cellsFrom n scope.names cl=(cx,n)::cl) (hc2:∀ h:Heap,pushCells h scope.names=h.push { cls:= .type "cell",data:= .cell none })
    (hQ:Q (newEnv scope s.heap.objs.size globals ((cx,s.heap.objs.size+1)::closure) qual none .none (some outer) builtinsNs) { s with heap:=(s.heap.push { cls:= .type "dict",data:= .dict #[] }).push { cls:= .type "cell",data:= .cell none } }):
    wpAny M A (newFunctionEnv scope globals closure [] qual none .none (some outer)) Q E s:=by
  simp only [newFunctionEnv,Option.isSome_some,if_true];refine Aa3 (wpAny_alloc ?_);refine Aa3 (wpAny_layCells _ (λ name kind cells=>by cases hkc:kind == NameKind.cell <;> simp [hkc]) _ _ _ _ ?_);rw [hc1,hc2];have e:(s.heap.push { cls:= .type "dict",data:= .dict #[] }).objs.size=s.heap.objs.size+1:=Heap.size_push ..;simp only [e];refine Aa3 ?_;rw [List.forIn_nil];exact Aa7 (Aa7 hQ)
structure BlkScopeC (X:Cx) (scope:Scope) (cx:Str) (own:List Str) (fr:List (Str × Nat)):Prop where
  kind:scope.kind= .function
  onec:∀ y∈scope.names,y.2= .cell->y.1=cx
  isc:scope.names.lookup cx=some .cell
  lay:∀ n cl,cellsFrom n scope.names cl=(cx,n)::cl
  push:∀ h:Heap,pushCells h scope.names=h.push { cls:= .type "cell",data:= .cell none }
  loc:∀ y∈scope.names,y.2= .local->scope.names.lookup y.1=some .local
  free:∀ y∈scope.names,y.2= .free->(X.env.scope.names.lookup y.1=some .cell\/X.env.scope.names.lookup y.1=some .free)
  fr:∀ p∈fr,X.N[p.2]?=some p.1/\(p.1,NameKind.free)∈scope.names
  only:∀ x,(x,NameKind.free)∈scope.names->scope.names.lookup x=some .free
def A9 (X:Cx) (scope:Scope) (cx:Str) (own:List Str) (fr:List (Str × Nat)) (C:Addr) (ex:List Addr) (s:Shared) (H:Hp):Cx where
  prog:=X.prog
  w:=X.w
  K:=X.K
  mg:=X.mg
  base:=X.base
  A:=X.A
  N:=own++fr.map (·.1)
  s₀:=s
  H₀:=H
  env:=compEnvC scope ((cx,C+1)::Av X.env.cells scope.names []) C X.env
  outer:=X.stack
  stack:=X.stack
  ex:=ex
  fn:=λ y=>y == cx
  calm:=X.calm
  pn:=[]
  xe:=λ _ _=>False
section
variable {X:Cx} {pins:List (Addr × Obj)} {σ:St} {H:Hp} {s:Shared} {scope:Scope} {cx:Str} {own:List Str} {fr:List (Str × Nat)} {fp:List Addr}
theorem BlkScopeC.cells (S:BlkScopeC X scope cx own fr) (ok:X.Ok):∀ y∈scope.names,y.2= .free->∃ c,X.env.cells.lookup y.1=some c:=λ y hy e=>ok.has y.1 (S.free y hy e)
theorem E6 {α:Type} {x y:Str} {a:α} {l:List (Str × α)} (h:y≠x):((x,a)::l).lookup y=l.lookup y:=by
  have:(y == x)=false:=by simpa using h
  rw [Ah4,this]
theorem Hy {α:Type} {x:Str} {a:α} {l:List (Str × α)}:((x,a)::l).lookup x=some a:=by rw [Ah4,beq_self_eq_true]
theorem Inv.blockC {h':Heap} {t':Nat} {m:Str->Option Value} (I:Inv X pins σ H s) (S:BlkScopeC X scope cx own fr) (hf:∀ b∈fp,Ce X pins H b) (hlt:∀ b∈fp,b<s.heap.objs.size)
    (hns:h'.Ns s.heap.objs.size m) (hce:h'.IsCell (s.heap.objs.size+1) none) (k:∀ b o,s.heap.get? b=some o->h'.get? b=some o):
    Inv (A9 X scope cx own fr s.heap.objs.size fp s H) [] (BD own fr σ) H { s with heap:=h',toks:=t' }:=by
  have cs:∀ x c,(Av X.env.cells scope.names []).lookup x=some c->X.env.cells.lookup x=some c:=El _ _ (λ _ _ e=>by simp at e);have ck:∀ c v,s.heap.IsCell c v->h'.IsCell c v:=λ c v ⟨o,ho,hd⟩=>⟨o,k _ _ ho,hd⟩;have kf:∀ x,(x,NameKind.free)∈scope.names->∃ c,X.env.cells.lookup x=some c/\(Av X.env.cells scope.names []).lookup x=some c:=λ x hx=>by
    obtain ⟨c0,e0⟩:=S.cells I.ok (x, .free) hx rfl;obtain ⟨c,e⟩:=DY (cells:=X.env.cells) scope.names [] x (.inl ⟨hx,c0,e0⟩);exact ⟨c,cs _ _ e,e⟩
  have rel:∀ x,(compEnvC scope ((cx,s.heap.objs.size+1)::Av X.env.cells scope.names []) s.heap.objs.size X.env).kindOf x=(scope.names.lookup x).map λ k=>if (k == NameKind.free&&X.env.scope.kind == .function&&X.env.kindOf x == some .cell)=true then NameKind.cell else k:=λ x=>CV X.env x scope.names
  have nx:∀ y,(y,NameKind.free)∈scope.names->y≠cx:=λ y hy z=>by
    subst z;have:=S.only y hy;rw [S.isc] at this;cases this
  have old:∀ y c,X.env.cells.lookup y=some c->c<s.heap.objs.size:=λ y c e=>by
    obtain ⟨v,o,ho,_⟩:=I.cell y c e;exact Aa9 ho
  have ct:∀ y c,(((cx,s.heap.objs.size+1)::Av X.env.cells scope.names [])).lookup y=some c->(y=cx/\c=s.heap.objs.size+1)\/(y≠cx/\X.env.cells.lookup y=some c):=λ y c e=>by
    by_cases hy:y=cx
    · subst hy;rw [Hy] at e;exact .inl ⟨rfl,(Ae7.inj e).symm⟩
    · rw [E6 hy] at e;exact .inr ⟨hy,cs _ _ e⟩
  have nc:∀ y,scope.names.lookup y=some .cell->y=cx:=λ y e=>S.onec _ (PySem.mem_of_lookup e) rfl;refine ⟨⟨I.ok.mod,S.kind,I.ok.glob,I.ok.blt,Aa6 _,λ x y c e1 e2=> ?inj,λ x hx=> ?_,λ x c e q=> ?cab,I.ok.hd,I.ok.frames, .inl rfl,
    λ b hb=>⟨Ac9 (hlt b hb),λ x c e=> ?exf⟩,I.bs,Ae0 I.ok.bsz I.sz,λ b o e hb=> ?_,λ b hb z=>(Ac2.mp (I.stkSub b z)).elim (hf b hb).2.1 (hf b hb).2.2.1,I.stack,I.stkFree⟩,
    rfl,I.bare,Un.kept k,⟨m,hns,λ i x v e1 e2 e3=> ?_⟩,λ x c e=> ?_,I.hok.fresh (Aa6 _),λ x c e=> ?freeC,λ p hp=>absurd (show p∈([]:List (Addr × Obj)) from hp) (by simp),I.hok.kept k,?_⟩
  case inj=>
    rcases ct x c e1 with ⟨h1,h2⟩ | ⟨h1,h2⟩
    · rcases ct y c e2 with ⟨h3,h4⟩ | ⟨h3,h4⟩
      · rw [h1,h3]
      · have:=old y c h4;rw [h2] at this;exact absurd this (Nat.not_lt.mpr (Nat.le_succ _))
    · rcases ct y c e2 with ⟨h3,h4⟩ | ⟨h3,h4⟩
      · have:=old x c h2;rw [h4] at this;exact absurd this (Nat.not_lt.mpr (Nat.le_succ _))
      · exact I.ok.inj x y c h2 h4
  case cab=>
    have e:(x == cx)=true:=e;have ex:x=cx:=eq_of_beq e;rcases ct x c q with ⟨_,h2⟩ | ⟨h1,_⟩
    · rw [h2];exact Nat.le_succ _
    · exact absurd ex h1
  case exf=>
    rcases ct x c e with ⟨_,h2⟩ | ⟨_,h2⟩
    · have:=hlt b hb;intro z;rw [<-z,h2] at this;exact absurd this (Nat.not_lt.mpr (Nat.le_succ _))
    · exact (hf b hb).2.2.2.2.1 x c h2
  case freeC=>
    rcases ct x c e with ⟨_,h2⟩ | ⟨_,h2⟩
    · rw [h2];exact I.hok.fresh (Nat.le_succ _)
    · exact I.freeC x c h2
  · have hx:(compEnvC scope ((cx,s.heap.objs.size+1)::Av X.env.cells scope.names []) s.heap.objs.size X.env).kindOf x=some .cell\/(compEnvC scope ((cx,s.heap.objs.size+1)::Av X.env.cells scope.names []) s.heap.objs.size X.env).kindOf x=some .free:=hx;rw [rel x] at hx;by_cases hxc:x=cx
    · subst hxc;exact ⟨_,Hy⟩
    have q:scope.names.lookup x=some .free:=by
      cases e:scope.names.lookup x with
      | none=>rw [e] at hx;simp at hx
      | some kk=>
        rw [e] at hx;simp only [Ae9,Ae7.injEq] at hx;by_cases hk:kk= .free
        · rw [hk]
        · have hb:(kk == NameKind.free)=false:=by simpa using hk
          simp only [hb,Ai3,Ab9,if_false] at hx;rcases hx with hx | hx
          · rw [hx] at e;exact absurd (nc x e) hxc
          · exact absurd hx hk
    obtain ⟨c,_,e⟩:=kf x (PySem.mem_of_lookup q);exact ⟨c,(E6 hxc).trans e⟩
  · rcases (hf b hb).2.2.2.1 with z | z
    · exact I.ok.noex b o e z
    · exact absurd (Ac3 (Aa9 (I.ok.bs b o e).1) z) (Ae5 _)
  · have e1:(own++fr.map (·.1))[i]?=some x:=e1;have e2:(BD own fr σ)[i]?=some (some v):=e2;unfold BD at e2;by_cases hi:i<own.length
    · rw [Ab5 (by simpa using hi),Aa8] at e2;rw [Aa1 hi] at e2;simp at e2
    · rw [Ac6 (by simpa using hi),Aa8,Aa2] at e2;rw [Ac6 (by omega),Aa8] at e1;cases ep:fr[i - own.length]? with
      | none=>rw [ep] at e1;simp at e1
      | some p=>
        rw [ep] at e1 e2;simp only [Ae9,Ae7.injEq] at e1 e2;subst e1;obtain ⟨h1,h2⟩:=S.fr p (Ad0 ep);have e4:σ[p.2]?=some (some v):=by
          cases q:σ[p.2]? with
          | none=>rw [q] at e2;simp at e2
          | some z=>rw [q] at e2;simp at e2;rw [e2]
        have kx:=S.free _ h2 rfl;obtain ⟨m0,hn0,hl0⟩:=I.loc;obtain ⟨u,r,l⟩:=hl0 p.2 p.1 v h1 e4 (kx.elim (λ z=> .inr (.inl z)) λ z=> .inr (.inr z));refine ⟨u,r,?_⟩;rcases l with ⟨z,_⟩ | ⟨_,c,hc,hcell⟩
        · have z:X.env.scope.names.lookup p.1=some .local:=z;rcases kx with y | y <;> (rw [y] at z;cases z)
        · obtain ⟨c',q1,q2⟩:=kf p.1 h2;rw [hc] at q1;cases q1;refine .inr ⟨?_,c,(E6 (nx _ h2)).trans q2,ck _ _ hcell⟩;show (compEnvC scope ((cx,s.heap.objs.size+1)::Av X.env.cells scope.names []) s.heap.objs.size X.env).kindOf p.1=some .cell\/(compEnvC scope ((cx,s.heap.objs.size+1)::Av X.env.cells scope.names []) s.heap.objs.size X.env).kindOf p.1=some .free;have e3:(compEnvC scope ((cx,s.heap.objs.size+1)::Av X.env.cells scope.names []) s.heap.objs.size X.env).kindOf p.1=some .local\/(compEnvC scope ((cx,s.heap.objs.size+1)::Av X.env.cells scope.names []) s.heap.objs.size X.env).kindOf p.1=some .cell\/(compEnvC scope ((cx,s.heap.objs.size+1)::Av X.env.cells scope.names []) s.heap.objs.size X.env).kindOf p.1=some .free:=e3;rcases e3 with e3 | e3
          · exfalso;rw [rel] at e3;cases e:scope.names.lookup p.1 with
            | none=>rw [e] at e3;cases e3
            | some kk=>
              rw [e] at e3;simp only [Ae9,Ae7.injEq] at e3;by_cases hk:kk= .free
              · subst hk;split at e3 <;> cases e3
              · have hb:(kk == NameKind.free)=false:=by simpa using hk
                simp only [hb,Ai3,Ab9,if_false] at e3;subst e3;have:=S.only p.1 h2;rw [this] at e;cases e
          · exact e3
  · rcases ct x c e with ⟨_,h2⟩ | ⟨_,h2⟩
    · rw [h2];exact ⟨none,hce⟩
    · obtain ⟨v,z⟩:=I.cell x c h2;exact ⟨v,ck _ _ z⟩
  · unfold BD;show _=(own++fr.map (·.1)).length;simp
end
section
variable {X:Cx}
theorem Ma {cx:Str} {elt tg iter:Expr} {ifs:List Expr} {scope:Scope} {pos:Pos} {own:List Str} {fr:List (Str × Nat)} {g:TG} {tc:TT} {te:TE} (hc:X.calm=true) (S:BlkScopeC X scope cx own fr)
    (hg:∀ C ex s H,PG (A9 X scope cx own fr C ex s H) tg g) (ht:∀ C ex s H,PTs (A9 X scope cx own fr C ex s H) ifs tc) (he:∀ C ex s H,PE (A9 X scope cx own fr C ex s H) elt te)
    {pins:List (Addr × Obj)} {σ:St} {H:Hp} {s:Shared} {it:Addr} {fp:List Addr} {tn:Nat->Heap->Prop} {J:It} {E:Value->Shared->Prop}
    (I:Inv X pins σ H s) (T:Turn X.prog X.w X.K tg J fp it tn) (st:tn 0 s.heap) (hf:∀ b∈fp,Ce X pins H b) {Q:VK}
    (h:∀ D,H D=none->DK J (BD own fr σ) g tc te Q H D)
    {RR:Value->Addr->Result->Shared->Prop}
    (hR:∀ D C H' s',Inv X pins σ H' s'->(∃ m,s'.heap.Ns C m)->Ce X pins H' C->Q (.ref D) H'->RR (.ref D) C (.ok .next) s'):
    wpAny (model X.prog X.w) X.A (newList []) (λ acc s₃=>wpAny (model X.prog X.w) X.A (newFunctionEnv scope X.env.globals (Av X.env.cells scope.names []) [] X.env.qual none .none (some X.env)) (λ cenv s₄=>
      codeAny (model X.prog X.w) X.A (.compStart (.ListComp elt [⟨tg,iter,ifs,0⟩] scope pos) 0 (.ref it) acc { cenv with scope:=relabel scope X.env }) (RR acc cenv.locals) s₄) E s₃) E s:=by
  have hDn:H s.heap.objs.size=none:=I.fresh;obtain ⟨W,⟨m0,w0⟩,turn⟩:=h s.heap.objs.size hDn;have I3:Inv X pins σ (upd H s.heap.objs.size (.lst [])) { s with heap:=s.heap.push { cls:= .type "list",data:= .seq ([]:List Value).toArray },toks:=s.toks }:=I.lnew .nil (Ad3 _);refine Ag3 ?_;generalize hs3:({ s with heap:=s.heap.push { cls:= .type "list",data:= .seq ([]:List Value).toArray } }:Shared)=s3 at I3 ⊢;have I3:Inv X pins σ (upd H s.heap.objs.size (.lst [])) s3:=I3;have old3:∀ b o,s.heap.get? b=some o->s3.heap.get? b=some o:=λ b o e=>by rw [<-hs3];exact Aa4 _ e
  have hobj:∀ b∈fp,∃ o,s.heap.get? b=some o/\∀ v,o.data≠ .cell v:=T.obj 0 _ st;have hne:∀ b∈fp,b≠s.heap.objs.size:=λ b hb=>by obtain ⟨o,e,_⟩:=hobj b hb;exact Ac9 (Aa9 e)
  have hf3:∀ b∈fp,Ce X pins (upd H s.heap.objs.size (.lst [])) b:=λ b hb=>⟨by rw [Ak (hne b hb)];exact (hf b hb).1,(hf b hb).2⟩;have hlt3:∀ b∈fp,b<s3.heap.objs.size:=λ b hb=>by obtain ⟨o,e,_⟩:=hobj b hb;exact Aa9 (old3 b o e)
  refine Jl S.lay S.push ?_;generalize hh1:((s3.heap.push { cls:= .type "dict",data:= .dict #[] }).push { cls:= .type "cell",data:= .cell none }:Heap)=h₁;have keep:∀ b o,s3.heap.get? b=some o->h₁.get? b=some o:=λ b o e=>by rw [<-hh1];exact Aa4 _ (Aa4 _ e)
  have hns:h₁.Ns s3.heap.objs.size (λ _=>none):=by rw [<-hh1];exact (Heap.Ns.new ..).push _
  have hce:h₁.IsCell (s3.heap.objs.size+1) none:=by
    rw [<-hh1];refine ⟨{ cls:= .type "cell",data:= .cell none },?_,rfl⟩;have:=Ab3 (s3.heap.push { cls:= .type "dict",data:= .dict #[] }) (o:={ cls:= .type "cell",data:= .cell none }) rfl;rw [Heap.size_push] at this;exact this
  have J0:=I3.blockC (t':=s3.toks) S hf3 hlt3 hns hce keep;have st3:tn 0 h₁:=T.keep 0 _ _ st λ b hb o e=>keep b o (old3 b o e);have loop:codeAny (model X.prog X.w) X.A (.compLoop (.ListComp elt [⟨tg,iter,ifs,0⟩] scope pos) 0 (.ref it) (.ref s.heap.objs.size) (compEnvC scope ((cx,s3.heap.objs.size+1)::Av X.env.cells scope.names []) s3.heap.objs.size X.env))
      (RR (.ref s.heap.objs.size) s3.heap.objs.size) { s3 with heap:=h₁ }:=by
    have stat:∀ {H':Hp},(∀ b∈fp,H' b=none)->∀ b∈fp,Ce (A9 X scope cx own fr s3.heap.objs.size fp s3 (upd H s.heap.objs.size (.lst []))) [] H' b:=λ {H'} hn b hb=>
      ⟨hn b hb,Ac9 (hlt3 b hb),J0.ok.exfs b hb, .inl hb,(J0.ok.exf b hb).2,λ p hp=>absurd (show p∈([]:List (Addr × Obj)) from hp) (by simp)⟩
    refine Fu (λ n s'=>∃ i ys H',Inv (A9 X scope cx own fr s3.heap.objs.size fp s3 (upd H s.heap.objs.size (.lst []))) [] (BD own fr σ) H' s'/\tn i s'.heap/\(∀ b∈fp,H' b=none)/\W i n ys H') ?_ m0
      ⟨0,[],_,J0,st3,λ b hb=>(hf3 b hb).1,w0⟩
    rintro n s4 ⟨i,ys,H4,I4,st4,fr4,w4⟩;rcases turn i n ys H4 w4 with ⟨stop,q⟩ | ⟨go,N,hN,step⟩
    · refine thn (T.done (A9 X scope cx own fr s3.heap.objs.size fp s3 (upd H s.heap.objs.size (.lst []))) rfl rfl rfl hc i [] s4 _ H4 (λ _ _=>False) I4 (stat fr4) st4 stop) λ r s5 ⟨hr,I5⟩=> ?_;subst hr;obtain ⟨m,hn,_⟩:=id I5.loc;exact hR _ _ H4 s5 (I3.call' I5.os I5.base I5.hok I5.bare λ b hb=>⟨(hf3 b hb).2.2.2.1,(hf3 b hb).2.1,(hf3 b hb).2.2.2.2.1,(hf3 b hb).2.2.2.2.2⟩) ⟨m,hn⟩ (I3.fpOk (Aa6 _) I5.free) q
    · refine thn (T.item (A9 X scope cx own fr s3.heap.objs.size fp s3 (upd H s.heap.objs.size (.lst []))) rfl rfl rfl hc i [] s4 _ H4 (λ _ _=>False) I4 (stat fr4) st4 go) λ r s5 ⟨u,hr,h5⟩=> ?_;subst hr;refine thn h5 λ _ s6 ⟨x,H6,I6,r6,y6,st6,fr6⟩=> ?_;have I6':=I6.pinned (stat fr6) (T.obj _ _ st6);refine thn (hg _ _ _ _ _ s6 _ H6 x u _ I6' r6 (step x H6 y6)) λ _ s7 ⟨σ7,H7,I7,kp,q7⟩=> ?_;refine thn (ht _ _ _ _ _ s7 σ7 H7 _ I7 q7) λ b s8 ⟨H8,I8,q8⟩=> ?_;have again:∀ {s9:Shared} {H9:Hp} {ys':List V},Inv (A9 X scope cx own fr s3.heap.objs.size fp s3 (upd H s.heap.objs.size (.lst []))) ([]++E4 fp s6.heap) σ7 H9 s9->N ys' H9->
          ∃ m,m<n/\∃ i ys H',Inv (A9 X scope cx own fr s3.heap.objs.size fp s3 (upd H s.heap.objs.size (.lst []))) [] (BD own fr σ) H' s9/\tn i s9.heap/\(∀ b∈fp,H' b=none)/\W i m ys H':=λ {s9 H9 ys'} I9 n9=>by
        obtain ⟨m',hm,w9⟩:=hN ys' H9 n9;refine ⟨m',hm,i+1,ys',H9,I9.unpinned.weak kp.1.symm kp.2,T.keep _ _ _ st6 λ b hb o e=>(I9.pin (b,o) (Ac1 _ (Ac1 _ (Bv hb e)))).1,λ b hb=> ?_,w9⟩;obtain ⟨o,e,d⟩:=T.obj _ _ st6 b hb;exact (I9.pin (b,o) (Ac1 _ (Ac1 _ (Bv hb e)))).2.1
      cases b with
      | false=>
        rw [if_neg Ab4] at q8 ⊢;exact again I8 q8
      | true=>
        rw [if_pos rfl] at q8 ⊢;refine thn (he _ _ _ _ _ s8 σ7 H8 _ I8 q8) λ xv s9 ⟨y,H9,I9,r9,hD,hl,n9⟩=> ?_;refine thn (AG _ s9 σ7 H9 (.ref s.heap.objs.size) [y] (.ref s.heap.objs.size) [xv] (λ _ H'=>H'=upd H9 s.heap.objs.size (.lst (ys++[y]))) I9 rfl (.cons r9 .nil) ⟨_,ys,y,rfl,rfl,hD,hl,rfl⟩) λ _ s10 ⟨_,H10,I10,_,q10⟩=> ?_;subst q10;exact again I10 n9
  exact codeAny_compStart_list loop (T.self _ 0 _ _ _ st3 loop)
theorem Ox {cx:Str} {elt tg iter:Expr} {ifs:List Expr} {scope:Scope} {pos:Pos} {own:List Str} {fr:List (Str × Nat)} {wi:TI} {g:TG} {tc:TT} {te:TE} (hc:X.calm=true) (S:BlkScopeC X scope cx own fr) (hi:PI X tg iter wi)
    (hg:∀ C ex s H,PG (A9 X scope cx own fr C ex s H) tg g) (ht:∀ C ex s H,PTs (A9 X scope cx own fr C ex s H) ifs tc) (he:∀ C ex s H,PE (A9 X scope cx own fr C ex s H) elt te)
    (hs:∀ x,foldedSetIterable iter X.env x=pure x:=by intro _;rfl):PE X (.ListComp elt [⟨tg,iter,ifs,0⟩] scope pos) (DN wi own fr g tc te):=by
  intro pins s σ H Q I h;rw [eval_ListComp];refine wpAny_comprehension_free (use:=none) rfl hs (Cj (S.cells I.ok)) S.kind S.loc (thn (hi pins s σ H _ I h) λ xv s₁ h₁=>thn h₁ λ itv s₂ h₂=> ?_);obtain ⟨it,fp,tn,J,H2,rfl,I2,T,st2,f2,h2⟩:=h₂;refine Ma (RR:=λ acc C=>compPost (model X.prog X.w) X.A X.xe none (EP X pins σ Q) acc C) hc S hg ht he I2 T st2 f2 h2 ?_;rintro D C H' s' I' ⟨m,hn⟩ f q;exact ⟨m,hn,λ h' sb=>⟨.ref D,H',I'.turned (t':=s'.toks) (it:=C) (λ b o hb e=>(sb.2 b hb).trans e) f.1 f.2.1 f.2.2.2.1 f.2.2.2.2.1 f.2.2.2.2.2,rfl,q⟩⟩
end
def Gd (sc:Scope) (N:List Str) (scope:Scope) (cx:Str) (own:List Str) (fr:List (Str × Nat)):Bool:=
  decide (scope.kind= .function)&&
  (scope.names.all λ y=>(decide (y.2≠ .cell)||decide (y.1=cx))&&(decide (y.2≠ .local)||decide (scope.names.lookup y.1=some .local))&&
    (decide (y.2≠ .free)||((decide (sc.names.lookup y.1=some .cell)||decide (sc.names.lookup y.1=some .free))&&decide (scope.names.lookup y.1=some .free))))&&
  (fr.all λ p=>decide (N[p.2]?=some p.1)&&decide ((p.1,NameKind.free)∈scope.names))&&
  decide (scope.names.lookup cx=some .cell)&&decide ((own++fr.map (·.1)).Nodup)
section
variable {X:Cx} {scope:Scope} {cx:Str} {own:List Str} {fr:List (Str × Nat)}
theorem BlkScopeC.of (h:Gd X.env.scope X.N scope cx own fr=true) (lay:∀ n cl,cellsFrom n scope.names cl=(cx,n)::cl) (push:∀ h:Heap,pushCells h scope.names=h.push { cls:= .type "cell",data:= .cell none }):BlkScopeC X scope cx own fr:=by
  unfold Gd at h;simp only [Ag9,Aj2,decide_eq_true_iff,Bool.or_eq_true] at h;obtain ⟨⟨⟨⟨h1,h2⟩,h3⟩,h4⟩,h5⟩:=h;exact ⟨h1,λ y hy e=>(h2 y hy).1.1.resolve_left (λ z=>z e),h4,lay,push,λ y hy e=>(h2 y hy).1.2.resolve_left (λ z=>z e),λ y hy e=>((h2 y hy).2.resolve_left (λ z=>z e)).1,λ p hp=>h3 p hp,λ x hx=>((h2 _ hx).2.resolve_left (λ z=>z rfl)).2⟩
theorem Pi {px:Pos} (h:Gd X.env.scope X.N scope cx [cx] fr=true) (C:Addr) (ex:List Addr) (s:Shared) (H:Hp):PG (A9 X scope cx [cx] fr C ex s H) (.Name cx px) (Ax 0):=by
  unfold Gd at h;simp only [Ag9,Aj2,decide_eq_true_iff,Bool.or_eq_true] at h;have hl:(relabel scope X.env).names.lookup cx=some .cell:=by
    have:=CV X.env cx scope.names;rw [h.1.2] at this;exact this
  exact Ar h.2 rfl (.inr hl) (.inl (beq_self_eq_true cx))
theorem L9 {elt iter:Expr} {px:Pos} {ifs:List Expr} {pos:Pos} {wi:TI} {tc:TT} {te:TE} (hi:PI X (.Name cx px) iter wi)
    (ht:∀ C ex s H,PTs (A9 X scope cx [cx] (Cd X.N scope) C ex s H) ifs tc) (he:∀ C ex s H,PE (A9 X scope cx [cx] (Cd X.N scope) C ex s H) elt te)
    (hb:Gd X.env.scope X.N scope cx [cx] (Cd X.N scope)=true:=by with_unfolding_all rfl) (hc:X.calm=true:=by rfl)
    (lay:∀ n cl,cellsFrom n scope.names cl=(cx,n)::cl:=by intro _ _;rfl) (push:∀ h:Heap,pushCells h scope.names=h.push { cls:= .type "cell",data:= .cell none }:=by intro _;rfl)
    (hs:∀ x,foldedSetIterable iter X.env x=pure x:=by intro _;rfl):PE X (.ListComp elt [⟨.Name cx px,iter,ifs,0⟩] scope pos) (DN wi [cx] (Cd X.N scope) (Ax 0) tc te):=
  Ox hc (.of hb lay push) hi (λ C ex s H=>Pi hb C ex s H) ht he hs
end
section
variable {X:Cx} {K:PySem.W.Frag} {scope:Scope} {fr:List (Str × Nat)}
theorem LS {elt iter:Expr} {x:Str} {px:Pos} {ifs:List Expr} {pos:Pos} {wi:TI} {tc:TT} {te:TE} (hi:PI X (.Name x px) iter wi)
    (ht:∀ C ex s H,PTs (AO X scope [x] fr C ex s H) ifs tc) (he:∀ C ex s H,PE (AO X scope [x] fr C ex s H) elt te)
    (hb:Dp X.env.scope X.N scope [x] fr=true:=by with_unfolding_all rfl) (hc:X.calm=true:=by rfl)
    (hs:∀ x,foldedSetIterable iter X.env x=pure x:=by intro _;rfl):PE X (.ListComp elt [⟨.Name x px,iter,ifs,0⟩] scope pos) (DN wi [x] fr (Ax 0) tc te):=
  FP hc (.of hb) hi (λ C ex s H=>Dw hb rfl C ex s H) ht he hs
end
section
variable {X:Cx} {e o:Expr} {es:List Expr} {t:TA} {to:TE} {pos:Pos} {S:Addr->Sp->Prop}
end
section
variable {X:Cx} {K:PySem.W.Frag}
end
end L2
namespace HT
open PySem PySem.Spec PyProof.Rows
variable {prog:Program} {w:World} {A:Around} {E:Value->Shared->Prop} {s:Shared}
end HT
namespace L2
open PySem PySem.Spec PyProof.Rows
theorem Ey:∀ {vs:List Value} {ns:List Int},IntsAre vs ns->Vals (ns.map V.int) vs
  | _,_, .nil=> .nil
  | _,_, .cons n t h=> .cons ⟨t,rfl⟩ (Ey h)
theorem ED:checkCount "sorted" 1 1 1=pure ():=rfl
def NN (tk tv:TE):TE:=λ σ H Q=>∀ p,H p=none->DV [(tk,tv)] σ (upd H p (.dT [])) λ ps H2=>∃ x y,ps=[(x,y)]/\∃ b ks,x= .ref b/\H2 b=some (.tup (List.map kV ks))/\H2 p=some (.dT [])/\Q (.ref p) (upd H2 p (.dT [(ks,y)]))
theorem NF {tk tv:TE} {σ:St} {H:Hp} {Q:VK} (h:∀ p,H p=none->DV [(tk,tv)] σ (upd H p (.dT [])) λ ps H2=>∃ x y,ps=[(x,y)]/\∃ b ks,x= .ref b/\H2 b=some (.tup (List.map kV ks))/\H2 p=some (.dT [])/\Q (.ref p) (upd H2 p (.dT [(ks,y)]))):NN tk tv σ H Q:=h
theorem MW {X:Cx} {pos:Pos} {k v:Expr} {tk tv:TE} (hu:X.A.units+1<cLine) (hk:PE X k tk) (hv:PE X v tv):PE X (.Dict [some k] [v] pos) (NN tk tv):=by
  intro pins s σ H Q I q;have hn:=I.hok.fresh (Aa6 s.heap.objs.size);have I1:=I.laid (a:=s.heap.objs.size) (o:= .dT []) (h':=s.heap.push { cls:= .type "dict",data:= .dict #[] }) (t':=s.toks) (λ _ _ q=>Aa4 _ q) (Aa6 _) (Jj s.heap I.big);have hp:=MZ (pos:=pos) hk hv (PL (X:=X) (pos:=pos));refine wpAny_Dict_any rfl rfl (by simp) (by simp) (thn (hp pins _ σ _ _ I1 (q _ hn)) λ ws s2 ⟨ps,H2,I2,rel,x,y,ep,b,ks,ex,eb,e,q2⟩=> ?_)
  · subst ep ex;cases rel with
    | @cons _ w _ _ rw rr=>
      cases rr;obtain ⟨u,r⟩:=w;obtain ⟨ru,rv⟩:=rw;cases (show u=Value.ref b from ru);obtain ⟨z,hd,xs,rel,dd⟩:=LM I2.hok e;cases rel;show wpAny _ _ (forIn [(Value.ref b,r)] PUnit.unit _) _ _ _;rw [List.forIn_cons];refine Aa3 (Aa3 (wpAny_dictSet_heap (hsz:=by simp) ?_ (Ef I2.hok eb) dd λ h' dd' hs=>Aa7 ?_))
      · show X.A.units<cLine;omega
      · show wpAny _ _ (pure PUnit.unit) _ _ _;refine Aa7 ?_;refine ⟨.ref s.heap.objs.size,_,?_,rfl,q2⟩;obtain ⟨q',es,ep,hq,h2,h3,h4,_,h5⟩:=dd';refine FU I2 (by rw [e];exact True.intro) hs ⟨q',hq⟩ ⟨by show 1<=sizeLine;decide,hd,_,?_,q',es,ep,hq,h2,h3,h4,h5⟩;exact .cons ⟨rfl,(Ak (A3 eb e (λ z=>nomatch z))).trans eb,rv⟩ .nil
def Jc (ta:TA):TE:=λ σ H Q=>ta σ H λ vs H1=>∃ i j:Int,vs=[.int i, .int j]/\(-(2 ^ 40)<=i/\i<2 ^ 40/\ -(2 ^ 40)<=j/\j<2 ^ 40)/\j - i<=100000/\∀ l,H1 l=none->Q (.ref l) (upd H1 l (.lst (((Aa5 (j - i).toNat).map λ k:Nat=>i+(k:Int)).map V.int)))
theorem J2 {ta:TA} {σ:St} {H:Hp} {Q:VK} (h:ta σ H λ vs H1=>∃ i j:Int,vs=[.int i, .int j]/\(-(2 ^ 40)<=i/\i<2 ^ 40/\ -(2 ^ 40)<=j/\j<2 ^ 40)/\j - i<=100000/\∀ l,H1 l=none->Q (.ref l) (upd H1 l (.lst (((Aa5 (j - i).toNat).map λ k:Nat=>i+(k:Int)).map V.int)))):Jc ta σ H Q:=h
theorem LZ (i j:Int):Builtin.Range.rangeSize i j 1=(((j - i).toNat:Nat):Int):=by
  unfold Builtin.Range.rangeSize;rw [if_pos (by decide)];split <;> omega
theorem Ee {X:Cx} {a b:Expr} {ta:TA} {p p2 pos pos2:Pos} (hgl:Gl X "list") (hml:X.mg "list"=none) (hg:Gl X "range") (hm:X.mg "range"=none) (ha:PA X [a,b] ta) (hc:X.calm=true:=by rfl)
    (hs:starEach [a,b] X.env=[(false,eval a X.env),(false,eval b X.env)]:=by rfl) (hs2:starEach [b] X.env=[(false,eval b X.env)]:=by rfl)
    (hs1:starEach [Expr.Call (.Name "range" p2) [a,b] [] pos2] X.env=[(false,eval (.Call (.Name "range" p2) [a,b] [] pos2) X.env)]:=by rfl):
    PE X (.Call (.Name "list" p) [.Call (.Name "range" p2) [a,b] [] pos2] [] pos) (Jc ta):=by
  intro pins s σ H Q I h;have hmid:wpAny (model X.prog X.w) X.A (eval (.Call (.Name "range" p2) [a,b] [] pos2) X.env) (λ v s1=>∃ r i j t u w H1,v=Value.ref r/\Inv X pins σ H1 s1/\IsRange s1.heap r i j 1 t u w/\(-(2 ^ 40)<=i/\i<2 ^ 40/\ -(2 ^ 40)<=j/\j<2 ^ 40)/\j - i<=100000/\∀ l,H1 l=none->Q (.ref l) (upd H1 l (.lst (((Aa5 (j - i).toNat).map λ k:Nat=>i+(k:Int)).map V.int)))) X.xe s:=by
    refine Call_ (BX I hg hm boot_range (PyProof.Rows.callWith_type1 (thn (ha pos2 pins s σ H _ I h) λ us s1 ⟨vs,H1,I1,r1,q1⟩=> ?_) (by rw [hs,hs2]) (by rw [hs2];rfl)));obtain ⟨i,j,e,bd,sm,q⟩:=q1;subst e;cases r1 with
    | cons r rr=>
      cases rr with
      | cons r' rr=>
        cases rr;obtain ⟨t,rfl⟩:=r;obtain ⟨t',rfl⟩:=r';refine call_range_2 ?_;exact ⟨_,i,j,t,t',_,H1,rfl,I1.kept λ b o e=>Aa4 _ e,IsRange.new ..,bd,sm,q⟩
  refine Aj1 (BX I hgl hml Bt (PyProof.Rows.callWith_type1 ?_ hs1 rfl));rw [hs1];refine Calls.spliced_cons (thn hmid λ v s1 ⟨r,i,j,t,u,w,H1,ev,I1,hr,bd,sm,q⟩=>Calls.spliced_nil ?_)
  · subst ev;obtain ⟨b1,b2,b3,b4⟩:=bd;refine call_list_range (I1.ok.hd hc) hr (small_one (by omega) (by omega) (by omega) (by omega)) (LZ i j) (by omega) λ h' tk acc c keep hg it=> ?_;have hv:Vals (((Aa5 (j - i).toNat).map λ k:Nat=>i+(k:Int)).map V.int) acc.toList:=by
      refine FR (by rw [Ad2,it.1];simp) λ k u hu=> ?_;have hk:k<(j - i).toNat:=by
        have:=(Ab1.mp hu).1;rw [Ad2,it.1] at this;exact this
      obtain ⟨t,rfl⟩:=it.2 k u (by rw [<-Ai1];exact hu);refine ⟨.int (i+(k:Int)),by simp [hk],?_⟩;rw [Int.mul_one];exact ⟨t,rfl⟩
    refine ⟨.ref s1.heap.objs.size,_,I1.laid (t':=tk) (o:= .lst (((Aa5 (j - i).toNat).map λ k:Nat=>i+(k:Int)).map V.int)) keep (Aa6 _) ⟨?_,acc.toList,c,hv,?_⟩,rfl,q _ (I1.hok.fresh (Aa6 _))⟩
    · rw [Aa2,Aa2,Ad7];exact Ae0 (show _<=100000 by omega) (by decide)
    · rw [hg]
section
variable {M:Model} {A:Around} {E:Value->Shared->Prop} {s:Shared}
def S8 (h:Heap) (a:Addr) (od:Option Addr):Prop:=∃ o,h.get? a=some o/\o.dict=od
end
def Ui (outer:List Env) (s:Shared) (H':Hp) (a C t:Addr) (s':Shared):Prop:=
  ∃ B:Heap,B.FlyingW outer a (.ref C) (.ref t) s'.heap/\∀ b,(H' b≠none\/∃ o,s.heap.get? b=some o)->b∉frs outer->∀ o,s'.heap.get? b=some o->B.get? b=some o
def CXE (P:Program) (w:World):CXT:=λ outer H s E e s'=>
  ∃ a C t od H',e= .ref a/\s'.os=s.os/\AllBare s'.gens/\Un (frs outer) [] H H' s.heap s'.heap/\HOk P w H' s'.heap/\Ui outer s H' a C t s'/\S8 s'.heap a od/\E (.ref C) od H'
end L2
namespace MSort
open PySem.W PyProof.Rows
def KP (lt:Nat->Nat->Bool) (n:Nat) {α:Type}:KasT α->(α->Prop)->Prop
  | .ret a,Q=>Q a
  | .ask i j k,Q=>i<n/\j<n/\KP lt n (k (lt i j)) Q
theorem DH {lt:Nat->Nat->Bool} {n:Nat} {α β:Type} {f:α->KasT β} {Q:β->Prop}:∀ (t:KasT α),KP lt n t (λ a=>KP lt n (f a) Q)->KP lt n (t.bind f) Q
  | .ret _,h=>h
  | .ask i j k,h=>⟨h.1,h.2.1,DH (k (lt i j)) h.2.2⟩
theorem Cc {lt:Nat->Nat->Bool} {n:Nat} {α:Type} {Q Q':α->Prop} (hq:∀ a,Q a->Q' a):∀ (t:KasT α),KP lt n t Q->KP lt n t Q'
  | .ret a,h=>hq a h
  | .ask i j k,h=>⟨h.1,h.2.1,Cc hq (k (lt i j)) h.2.2⟩
structure Ok (n:Nat) (p:Array Nat):Prop where
  size:p.size=n
  perm:p.toList.Perm (Aa5 n)
theorem Ok.lt {n:Nat} {p:Array Nat} (h:Ok n p) {i:Nat} (hi:i<n):p.getD i 0<n:=by
  have hi':i<p.size:=by rw [h.size];exact hi
  have e:p.getD i 0=p[i]:=by simp [Array.getD,hi']
  rw [e];have:=h.perm.mem_iff.mp (Array.mem_toList_iff.mpr (Array.getElem_mem hi'));exact Ac0.mp this
theorem Ok.inj {n:Nat} {p:Array Nat} (h:Ok n p) {i j:Nat} (hi:i<n) (hj:j<n) (e:p.getD i 0=p.getD j 0):i=j:=by
  have hi':i<p.size:=by rw [h.size];exact hi
  have hj':j<p.size:=by rw [h.size];exact hj
  have e1:p.getD i 0=p.toList[i]'(by simpa using hi'):=by simp [Array.getD,hi']
  have e2:p.getD j 0=p.toList[j]'(by simpa using hj'):=by simp [Array.getD,hj']
  rw [e1,e2] at e;have nd:p.toList.Nodup:=h.perm.symm.nodup List.nodup_range;exact (List.getElem_inj nd).mp e
theorem Ok.to {n:Nat} {p q:Array Nat} (h:Ok n p) (hq:q.Perm p):Ok n q:=
  ⟨hq.size_eq.trans h.size,(Array.perm_iff_toList_perm.mp hq).trans h.perm⟩
variable {r:Nat->Nat} {n:Nat} {p:Array Nat}
def K (r:Nat->Nat) (p:Array Nat) (i:Nat):Nat:=r (p.getD i 0)
def Inj (r:Nat->Nat) (n:Nat):Prop:=∀ i j,i<n->j<n->r i=r j->i=j
def L (r:Nat->Nat):Nat->Nat->Bool:=λ i j=>decide (r i<r j)
def Up (r:Nat->Nat) (p:Array Nat) (k:Nat):Prop:=∀ i j,i<j->j<k->K r p i<K r p j
def Dn (r:Nat->Nat) (p:Array Nat) (k:Nat):Prop:=∀ i j,i<j->j<k->K r p j<K r p i
theorem Ra (hr:Inj r n) (o:Ok n p) {i j:Nat} (hi:i<n) (hj:j<n) (hij:i≠j):K r p i≠K r p j:=
  λ e=>hij (o.inj hi hj (hr _ _ (o.lt hi) (o.lt hj) e))
theorem EG {p q:Array Nat} {i j:Nat} (h:p[i]?=q[j]?):p.getD i 0=q.getD j 0:=by
  have e:∀ (a:Array Nat) k,a.getD k 0=(a[k]?).getD 0:=λ a k=>by simp
  rw [e,e,h]
theorem Jh {src d:Nat} (hs:src<p.size) (hd:d<=src) (k:Nat):K r (bubble p src d) k=if k=src - d then K r p src else if src - d<k/\k<=src then K r p (k - 1) else K r p k:=by
  have e:=getElem?_bubble hs d hd k;unfold K;by_cases h1:k=src - d
  · rw [if_pos h1] at e ⊢;rw [EG e]
  · rw [if_neg h1] at e ⊢;by_cases h2:src - d<k/\k<=src
    · rw [if_pos h2] at e ⊢;rw [EG e]
    · rw [if_neg h2] at e ⊢;rw [EG e]
theorem Q1 {j:Nat} (hj:j<=p.size) (k:Nat):K r (kas_rev p 0 j) k=if k<j then K r p (j - 1 - k) else K r p k:=by
  have e:=getElem?_mirror_all (i:=0) hj k;unfold K kas_rev;by_cases h1:k<j
  · rw [if_pos ⟨Ad3 _,h1⟩] at e;rw [if_pos h1,EG e,show 0+j - 1 - k=j - 1 - k by omega]
  · rw [if_neg (by omega)] at e;rw [if_neg h1,EG e]
theorem asc (hr:Inj r n) (o:Ok n p):∀ (f m:Nat),m+f<=n->1<=m->Up r p m->KP (L r) n (kas_asc p f m) (λ m'=>m<=m'/\m'<=m+f/\Up r p m'/\(m'<m+f->K r p m'<K r p (m' - 1)))
  | 0,m,hm,h1,u=>⟨Aa6 _,Aa6 _,u,λ h=>absurd h (by omega)⟩
  | f+1,m,hm,h1,u=>by
    refine ⟨o.lt (by omega),o.lt (by omega),?_⟩;show KP (L r) n (if L r (p.getD m 0) (p.getD (m - 1) 0)=true then _ else _) _;by_cases c:K r p m<K r p (m - 1)
    · rw [if_pos (show L r (p.getD m 0) (p.getD (m - 1) 0)=true from decide_eq_true c)];exact ⟨Aa6 _,by omega,u,λ _=>c⟩
    · rw [if_neg (show ¬ L r (p.getD m 0) (p.getD (m - 1) 0)=true from λ z=>c (of_decide_eq_true z))];have ne:=Ra hr o (i:=m) (j:=m - 1) (by omega) (by omega) (by omega);refine Cc (λ m' h=> ?_) _ (asc hr o f (m+1) (by omega) (by omega) ?_)
      · obtain ⟨h1,h2,h3,h4⟩:=h;exact ⟨by omega,by omega,h3,λ z=>h4 (by omega)⟩
      · intro i j hij hj;by_cases e:j=m
        · subst e;by_cases e':i=j - 1
          · subst e';omega
          · have:=u i (j - 1) (by omega) (by omega);omega
        · exact u i j hij (by omega)
theorem UL (hr:Inj r n) (o:Ok n p):∀ (f m:Nat),m+f<=n->1<=m->Dn r p m->KP (L r) n (kas_desc f p m 0) (λ x=>x.1=p/\x.2.2=0/\m<=x.2.1/\x.2.1<=m+f/\Dn r p x.2.1)
  | 0,m,hm,h1,u=>⟨rfl,rfl,Aa6 _,Aa6 _,u⟩
  | f+1,m,hm,h1,u=>by
    refine ⟨o.lt (by omega),o.lt (by omega),?_⟩;show KP (L r) n (if L r (p.getD m 0) (p.getD (m - 1) 0)=true then _ else _) _;by_cases c:K r p m<K r p (m - 1)
    · rw [if_pos (show L r (p.getD m 0) (p.getD (m - 1) 0)=true from decide_eq_true c),if_neg (by omega)];refine Cc (λ m' h=> ?_) _ (UL hr o f (m+1) (by omega) (by omega) ?_)
      · obtain ⟨h1,h2,h3,h4,h5⟩:=h;exact ⟨h1,h2,by omega,by omega,h5⟩
      · intro i j hij hj;by_cases e:j=m
        · subst e;by_cases e':i=j - 1
          · subst e';omega
          · have:=u i (j - 1) (by omega) (by omega);omega
        · exact u i j hij (by omega)
    · rw [if_neg (show ¬ L r (p.getD m 0) (p.getD (m - 1) 0)=true from λ z=>c (of_decide_eq_true z))];have ne:=Ra hr o (i:=m) (j:=m - 1) (by omega) (by omega) (by omega);refine ⟨o.lt (by omega),o.lt (by omega),?_⟩;show KP (L r) n (if L r (p.getD (m - 1) 0) (p.getD m 0)=true then _ else _) _;rw [if_pos (show L r (p.getD (m - 1) 0) (p.getD m 0)=true from decide_eq_true (show K r p (m - 1)<K r p m by omega))];exact ⟨rfl,rfl,Aa6 _,Nat.le_add_right _ _,u⟩
theorem SN:Up r p 1:=λ i j a b=>by omega
theorem UW (hr:Inj r n) (o:Ok n p) {m:Nat} (h1:1<=m) (hm:m<=n) (d:Dn r p m):KP (L r) n (kas_tail3 m n p) (λ x=>Ok n x.2/\1<=x.1/\x.1<=n/\Up r x.2 x.1):=by
  unfold kas_tail3;have o':Ok n (kas_rev p 0 m):=o.to (mirror_perm _ _ _ _);have u:Up r (kas_rev p 0 m) m:=by
    intro i j hij hj;rw [Q1 (by rw [o.size];exact hm),Q1 (by rw [o.size];exact hm),if_pos (by omega),if_pos hj];exact d _ _ (by omega) (by omega)
  refine DH _ (Cc (λ m' h=> ?_) _ (asc hr o' (n - m) m (by omega) h1 u));exact ⟨o',by omega,by omega,h.2.2.1⟩
theorem count (hr:Inj r n) (o:Ok n p) (h0:1<=n):KP (L r) n (kas_count n p) (λ x=>Ok n x.2/\1<=x.1/\x.1<=n/\Up r x.2 x.1):=by
  unfold kas_count;refine DH _ (Cc (λ m h=> ?_) _ (asc hr o (n - 1) 1 (by omega) (by omega) SN));obtain ⟨a1,a2,a3,a4⟩:=h;by_cases e:m=n
  · rw [if_pos (by simp [e])];exact ⟨o,a1,by omega,a3⟩
  · rw [if_neg (by simpa using e)];have c:=a4 (by omega);by_cases g:m>1
    · rw [if_pos g];refine ⟨o.lt (by omega),o.lt (by omega),?_⟩;show KP (L r) n (if L r (p.getD 0 0) (p.getD (m - 1) 0)=true then _ else _) _;rw [if_pos (show L r (p.getD 0 0) (p.getD (m - 1) 0)=true from decide_eq_true (show K r p 0<K r p (m - 1) from a3 0 (m - 1) (by omega) (by omega)))];exact ⟨o,a1,by omega,a3⟩
    · rw [if_neg g];have e1:m=1:=by omega
      subst e1;unfold kas_descPart;refine DH _ (Cc (λ x h=> ?_) _ (UL hr o (n - (1+1)) (1+1) (by omega) (by omega) ?_))
      · obtain ⟨b1,b2,b3,b4,b5⟩:=h;rw [if_neg (by omega),b1];exact UW hr o (by omega) (by omega) b5
      · intro i j hij hj;have:i=0/\j=1:=by omega
        obtain ⟨rfl,rfl⟩:=this;exact c
theorem place (hr:Inj r n) (o:Ok n p) {k:Nat} (hk:k<n):∀ (f l h:Nat),h - l<=f->l<=h->h<=k->(∀ i,i<l->K r p i<K r p k)->(∀ i,h<=i->i<k->K r p k<K r p i)->Up r p k->
    KP (L r) n (kas_place p k f l h) (λ x=>x<=k/\(∀ i,i<x->K r p i<K r p k)/\(∀ i,x<=i->i<k->K r p k<K r p i))
  | 0,l,h,e,a,b,c,d,u=>⟨by omega,c,λ i h1 h2=>d i (by omega) h2⟩
  | f+1,l,h,e,a,b,c,d,u=>by
    show KP (L r) n (if l>=h then _ else _) _;by_cases g:l>=h
    · rw [if_pos g];exact ⟨by omega,c,λ i h1 h2=>d i (by omega) h2⟩
    · rw [if_neg g];have hmk:(l+h) / 2<k:=by omega
      refine ⟨o.lt hk,o.lt (by omega),?_⟩;show KP (L r) n (if L r (p.getD k 0) (p.getD ((l+h) / 2) 0)=true then _ else _) _;by_cases z:K r p k<K r p ((l+h) / 2)
      · rw [if_pos (show L r (p.getD k 0) (p.getD ((l+h) / 2) 0)=true from decide_eq_true z)];refine place hr o hk f l _ (by omega) (by omega) (by omega) c (λ i h1 h2=> ?_) u;by_cases e':i=(l+h) / 2
        · rw [e'];exact z
        · have:=u _ i (show (l+h) / 2<i by omega) h2;omega
      · rw [if_neg (show ¬ L r (p.getD k 0) (p.getD ((l+h) / 2) 0)=true from λ y=>z (of_decide_eq_true y))];have ne:=Ra hr o hk (show (l+h) / 2<n by omega) (by omega);refine place hr o hk f _ h (by omega) (by omega) (by omega) (λ i h1=> ?_) d u;by_cases e':i=(l+h) / 2
        · rw [e'];omega
        · have:=u i _ (show i<(l+h) / 2 by omega) hmk;omega
theorem bin (hr:Inj r n):∀ (f k:Nat) (p:Array Nat),Ok n p->k+f=n->Up r p k->KP (L r) n (kas_bin f p k) (λ x=>Ok n x/\Up r x n)
  | 0,k,p,o,e,u=>⟨o,(show k=n by omega)▸u⟩
  | f+1,k,p,o,e,u=>by
    refine DH _ (Cc (λ l h=> ?_) _ (place hr o (k:=k) (by omega) k 0 k (by omega) (by omega) (Aa6 _) (λ i h=>by omega) (λ i h1 h2=>by omega) u));obtain ⟨h1,h2,h3⟩:=h;have hs:k<p.size:=by rw [o.size];omega
    refine bin hr f (k+1) _ (o.to (bubble_perm _ _ _)) (by omega) ?_;intro i j hij hj;rw [Jh hs (by omega),Jh hs (by omega),show k - (k - l)=l by omega];by_cases a:i=l
    · rw [if_pos a,if_neg (by omega),if_pos (by omega)];exact h3 _ (by omega) (by omega)
    · rw [if_neg a];by_cases b:j=l
      · rw [if_pos b,if_neg (by omega)];exact h2 _ (by omega)
      · rw [if_neg b];by_cases c:l<i/\i<=k
        · rw [if_pos c,if_pos (by omega)];exact u _ _ (by omega) (by omega)
        · rw [if_neg c];by_cases d:l<j/\j<=k
          · rw [if_pos d];by_cases e:i<j - 1
            · exact u _ _ e (by omega)
            · omega
          · rw [if_neg d];exact u _ _ hij (by omega)
theorem sort (hr:Inj r n) (h0:1<=n):KP (L r) n (kas_sort n) (λ x=>Ok n x/\Up r x n):=by
  unfold kas_sort;refine DH _ (Cc (λ x h=> ?_) _ (count hr (p:=List.toArray (Aa5 n)) ⟨by simp,by simp⟩ h0));obtain ⟨a,b,c,d⟩:=h;by_cases g:x.1<n
  · rw [if_pos g];have e:max x.1 1=x.1:=by omega
    rw [e];exact bin hr _ _ _ a (by omega) d
  · rw [if_neg g];have e:x.1=n:=by omega
    exact ⟨a,e▸d⟩
end MSort
namespace HT
open PySem PySem.Spec PyProof.Rows PySem.W
variable {prog:Program} {w:World} {A:Around} {E:Value->Shared->Prop} {s:Shared}
def RawD (d:Addr) (es:Array DictEntry) (ep:Nat) (h:Heap):Prop:=∃ o,h.get? d=some o/\o.ExactDict/\o.data= .dict es ep
theorem RawD.type {d:Addr} {es:Array DictEntry} {ep:Nat} (x:RawD d es ep s.heap):s.TypeIs (.ref d) "dict":=⟨_,x.choose_spec.1,x.choose_spec.2.1.1⟩
theorem RawD.to {d:Addr} {es:Array DictEntry} {ep:Nat} {h h':Heap} (x:RawD d es ep h) (k:∀ o,h.get? d=some o->h'.get? d=some o):RawD d es ep h':=⟨_,k _ x.choose_spec.1,x.choose_spec.2⟩
theorem Ow {d:Addr} {es:Array DictEntry} {ep:Nat} {Q:Value->Shared->Prop} (hd:(d == sysModules)=false) (hm:RawD d es ep s.heap)
    (hQ:Q (.ref s.heap.objs.size) { s with heap:=s.heap.push { cls:= .type "dict_keyiterator",data:= .fields #[.ref d, .int 0 0, .int es.size 0, .int ep 0] } }):wpAny (model prog w) A (pyIter (.ref d)) Q E s:=by
  have hT:=hm.type;obtain ⟨o,ho, -,hdat⟩:=hm;refine wpAny_pyIter_slot hT PySem.F.slot_dict_iter (Ag1 PySem.F.slot_dict_iter hT PySem.F.entry_dict_iter ?_ (PySem.F.args_dict_iter_1 _));unfold Builtin.«dict.__iter__» Builtin.Dict.dictSlotNone;refine Aa3 (Aa3 (wpAny_notOrdered_dict hT (Aa7 ?_)));show wpAny _ _ (Builtin.Dict.showsAll d >>= _) _ _ s;unfold Builtin.Dict.showsAll;rw [if_neg (by simp [hd])];refine Aa3 (Aa7 (Aa3 (Ai7 ho hdat (Aa3 (wpAny_dictEpoch ho hdat ?_)))));refine Aa3 (Ag3 (Aa7 ⟨_,rfl,"dict_keyiterator",_,⟨_,Ab3 _ rfl,rfl⟩,PySem.F.slot_dict_keyiterator_next.lookup,?_⟩));simpa [rawInt] using hQ
theorem N3 {it d:Addr} {i ep:Nat} {es:Array DictEntry} {e:DictEntry} {Q:Option Value->Shared->Prop} (hit:s.heap.IsKeyIter it d i es.size ep) (hm:RawD d es ep s.heap) (hx:es[i]?=some e)
    (hQ:∀ h',h'.IsKeyIter it d (i+1) es.size ep->Heap.SameBut it s.heap h'->Q (some e.key) { s with heap:=h' }):wpAny (model prog w) A (pyNext (.ref it)) Q E s:=by
  obtain ⟨o,ho,hc,hd⟩:=id hit;obtain ⟨od,hod, -,hdd⟩:=hm;have hno:Builtin.Dict_items.ownsTuple "dict_keyiterator"=false:=by decide
  unfold pyNext;refine Aa3 (wpAny_attempt (Ag7 (name:=Str.ofString "__next__") hit.typeIs PySem.F.slot_dict_keyiterator_next (Ag1 PySem.F.slot_dict_keyiterator_next hit.typeIs PySem.F.entry_dict_keyiterator_next ?_ (PySem.F.args_dict_keyiterator_next_1 _))));refine Aa3 (Aa7 (Aa3 (Aa3 ?_)));refine Aa3 (Aj3 hit.typeIs (Aa7 ?_));refine Aa3 (wpAny_fieldsOf ho hd ?_);simp only [hno,Ab9,if_false];show wpAny _ _ (if (Value.ref d == Value.none)=true then _ else _) _ _ s;rw [if_neg (show ¬ ((Value.ref d == Value.none)=true) from Ab4)];refine Aa3 (Aa7 (Aa3 (Ai7 hod hdd ?_)));rw [if_neg (by simp)];refine Aa3 (Aa7 (Aa3 (wpAny_dictEpoch hod hdd ?_)));rw [if_neg (by simp)];refine Aa7 ?_;simp only [show ¬ ((i:Int)<0) from by omega,if_false,Ab6,hx];refine Aa3 (Aa3 (Aj3 hit.typeIs (Aa7 ?_)));refine Aa3 (wpAny_isOneOf_keyiter hit.typeIs ?_);show wpAny _ _ (setField (.ref it) 1 (rawInt ((i:Int)+1)) >>= _) _ _ s;refine Aa3 (wpAny_setField ho hd (by simp) ?_);have hit':(s.heap.update it (Obj.mapFields (·.setIfInBounds 1 (rawInt ((i:Int)+1))))).IsKeyIter it d (i+1) es.size ep:=
    ⟨_,Ag5 _ ho (Obj.isFreed_of_fields (Obj.data_mapFields hd _)),(Obj.cls_mapFields ..).trans hc,by rw [Obj.data_mapFields hd];simp [rawInt]⟩
  refine Aa3 (Ah9 (Aa3 (wpAny_isOneOf_keyiter (s:={ s with heap:=s.heap.update it (Obj.mapFields (·.setIfInBounds 1 (rawInt ((i:Int)+1)))) }) hit'.typeIs ?_)));show wpAny _ _ (pure e.key) _ _ _;exact Aa7 (Aa7 ⟨_,rfl,Aa7 (hQ _ hit' (Heap.SameBut.update ..))⟩)
theorem Qm {it d:Addr} {i ep:Nat} {es:Array DictEntry} {Q:Option Value->Shared->Prop} (hh:A.handled=none) (hit:s.heap.IsKeyIter it d i es.size ep) (hm:RawD d es ep s.heap) (hx:es[i]?=none)
    (hQ:∀ h',Heap.ExtBut it s.heap h'->Q none { s with heap:=h' }):wpAny (model prog w) A (pyNext (.ref it)) Q E s:=by
  obtain ⟨o,ho,hc,hd⟩:=id hit;obtain ⟨od,hod, -,hdd⟩:=hm;have hno:Builtin.Dict_items.ownsTuple "dict_keyiterator"=false:=by decide
  unfold pyNext;refine Aa3 (wpAny_attempt (Ag7 (name:=Str.ofString "__next__") hit.typeIs PySem.F.slot_dict_keyiterator_next (Ag1 PySem.F.slot_dict_keyiterator_next hit.typeIs PySem.F.entry_dict_keyiterator_next ?_ (PySem.F.args_dict_keyiterator_next_1 _))));refine Aa3 (Aa7 (Aa3 (Aa3 ?_)));refine Aa3 (Aj3 hit.typeIs (Aa7 ?_));refine Aa3 (wpAny_fieldsOf ho hd ?_);simp only [hno,Ab9,if_false];show wpAny _ _ (if (Value.ref d == Value.none)=true then _ else _) _ _ s;rw [if_neg (show ¬ ((Value.ref d == Value.none)=true) from Ab4)];refine Aa3 (Aa7 (Aa3 (Ai7 hod hdd ?_)));rw [if_neg (by simp)];refine Aa3 (Aa7 (Aa3 (wpAny_dictEpoch hod hdd ?_)));rw [if_neg (by simp)];refine Aa7 ?_;simp only [show ¬ ((i:Int)<0) from by omega,if_false,Ab6,hx];refine Aa3 (Aa3 (Aj3 hit.typeIs (Aa7 ?_)));show wpAny _ _ (setField (.ref it) 0 .none >>= _) _ _ s;refine Aa3 (wpAny_setField ho hd (by simp) ?_);show wpAny _ _ (newExc (.type "StopIteration") [] >>= _) _ _ _;refine Aa3 ?_;simp only [newExc,newTuple];refine Aa3 (Ag3 ?_ (by size_fits));refine Aa3 (m:=firstArgMember _ _) (wpAny_of_eq (a:=Value.none) (by first | rfl | (simp only [firstArgMember];rfl)) ?_);refine Ag3 ?_ (by size_fits);simp only [raiseNew];refine Aa3 (wpAny_handled ?_);rw [show A.in1.handled=none from hh];refine Aa3 (Aa7 (wpAny_throw ?_));refine Aa3 (Ai6 (T:="StopIteration") (b:=true) ⟨_,Ab3 _ rfl,rfl⟩ isSubtype_stop ?_);exact Aa7 (hQ _ (((Heap.SameBut.update ..).extBut.push _).push _))
theorem Mt (hh:A.handled=none) (I d:Addr) (hne:d≠I) (es:Array DictEntry) (ep:Nat):Walks prog w A I [I,d] [I] es.size (λ i v=>∃ e,es[i]?=some e/\v=e.key) (λ i h=>h.IsKeyIter I d i es.size ep/\RawD d es ep h) where
  sub:=λ b hb=>by simp at hb;simp [hb]
  frame:=λ _ _ _ st hk=>⟨st.1.at λ o e=>hk I (by simp) o e,st.2.to λ o e=>hk d (by simp) o e⟩
  item:=λ i s Q E hi st hQ=>by
    have hx:es[i]?=some es[i]:=by simp [hi]
    exact N3 st.1 st.2 hx λ h' hit hs=>hQ _ h' s.toks ⟨_,hx,rfl⟩ ⟨hit,st.2.to λ o e=>hs.extBut d o hne e⟩ λ b o hb e=>hs.extBut b o (λ h=>hb (by simp [h])) e
  done:=λ s Q E st hQ=>Qm hh st.1 st.2 (by simp) λ h' he=>hQ h' s.toks λ b o hb e=>he b o (λ h=>hb (by simp [h])) e
  self:=λ _ _ _ _ st hQ=>wpAny_pyIter_keyiter st.1 hQ
theorem raw_src {d:Addr} {es:Array DictEntry} {ep:Nat} (lo:(d == sysModules)=false):KdlSrc prog w "dict" d d es.size (λ i v=>∃ e,es[i]?=some e/\v=e.key) (RawD d es ep) where
  type:=λ _ hm=>hm.type
  there:=λ _ hm=>⟨Aa9 hm.choose_spec.1,Aa9 hm.choose_spec.1⟩
  keep:=λ _ _ hm hk=>hm.to λ o e=>hk d (.inl rfl) o e
  notList:=by decide
  notTuple:=by decide
  hint:=λ _ _ _ _ hm hq=>kdl_hint_dict hm.type hq
  iter:=λ _ _ hh hm=>⟨_,_,(λ _ _ hq=>Ow lo hm hq),Mt hh _ d (Ac9 (Aa9 hm.choose_spec.1)) es ep,⟨⟨_,Ab3 _ rfl,rfl,rfl⟩,hm.to λ o e=>Aa4 _ e⟩⟩
theorem sort_shell {a:Addr} {vs:List Value} {n:Nat} {P:PySem.Fin->Shared->Prop} (G:List Value->Prop) (ho:s.heap.get? a=some (seqObj "list" vs.toArray n)) (h64:vs.length<64) (h1:vs.length<2->G vs)
    (h2:2<=vs.length->∀ h',(∀ b o,b≠a->s.heap.get? b=some o->h'.get? b=some o)->
      wpAny (model prog w) A (keyKind' vs.toArray) (λ κ s'=>(kas_sort vs.length).kasWp (kas_ask prog w A κ vs) (λ p s''=>s''={ s with heap:=h' }/\G (p.toList.map λ i=>vs.getD i Value.none)) s') (λ _ _=>False) { s with heap:=h' })
    (h:∀ out,G out->out.length=vs.length->P (.done (.ret .none)) { s with heap:=sortedHeap s.heap a vs out.toArray }):wpAny (model prog w) A (Builtin.«list.sort» ⟨[.ref a],[]⟩) P E s:=by
  have ha:a<s.heap.objs.size:=Aa9 ho;obtain ⟨e1,ho1⟩:∃ e1,(s.heap.update a (Obj.mapSeq λ _=>(#[]:Array Value))).get? a=some (seqObj "list" #[] e1):=⟨_,get?_update_seq ho λ _=> #[]⟩;have ho6:(((s.heap.update a (Obj.mapSeq λ _=>(#[]:Array Value))).push (seqObj "tuple" vs.toArray 0)).push (seqObj "list" #[] 0)).get? a=some (seqObj "list" #[] e1):=Aa4 _ (Aa4 _ ho1);have line:∀ k,k<64->k<=sizeLine+1:=λ k hk=>by rw [sizeLine_eq];omega
  rw [list_sort_plain];refine Aa3 (listItems_at ho rfl (Aa3 (listUpdate_at ho rfl ?_ (by rw [Ab8,sizeLine_eq];omega) (Ad3 _))));refine Aa3 (seqEpoch_at ho1 rfl (Aa3 (wpAny_newTuple ?_ (by show vs.length<=_;rw [sizeLine_eq];omega))));refine Aa3 (wpAny_newList (Ah9 ?_) (Ad3 _));show wpAny (model prog w) A _ P E { s with heap:=((s.heap.update a (Obj.mapSeq λ _=> #[])).push (seqObj "tuple" vs.toArray 0)).push (seqObj "list" #[] 0) };dsimp only;by_cases c:vs.toArray.size<2
  · have cl:vs.length<2:=by simpa using c
    rw [if_pos c,if_pos c];refine Aa3 (Aa7 ?_);rw [StateT.run_pure];refine Aa3 (Aa7 (Aa3 (seqEpoch_at ho6 rfl (Aa3 (listUpdate_at ho6 rfl ?_ (Ad3 _) ?_)))))
    · simp only [bne_self_eq_false,Ab9,if_false];have e:(vs.toArray.zip vs.toArray).map (·.2)=vs.toArray:=by
        apply Array.toList_inj.mp;rw [Array.toList_map,Array.toList_zip];exact List.map_snd_zip (Aa6 _)
      refine Aa7 ?_;show P _ { s with heap:=(((s.heap.update a (Obj.mapSeq λ _=>(#[]:Array Value))).push (seqObj "tuple" vs.toArray 0)).push (seqObj "list" #[] 0)).update a (Obj.mapSeq λ _=>(vs.toArray.zip vs.toArray).map (·.2)) };rw [e];exact h vs (h1 cl) rfl
    · simp only [Array.size_map];show (vs.toArray.zip vs.toArray).size<=_;rw [Array.size_zip,Ab8,Nat.min_self];exact line _ h64
  · have cl:2<=vs.length:=by simpa using c
    rw [if_neg c,if_neg c];have ask:=h2 cl _ (λ b o nb e=>show (((s.heap.update a (Obj.mapSeq λ _=>(#[]:Array Value))).push (seqObj "tuple" vs.toArray 0)).push (seqObj "list" #[] 0)).get? b=some o from
      Aa4 _ (Aa4 _ ((Af7 _ _ (Ne.symm nb)).trans e)))
    refine Aa3 (Ag6 ask (λ κ s0 hk=> ?_) λ _ _ x=>x.elim);refine Aa3 (Ag6 (kat_run (Q:=λ st' s'=>∃ p:Array Nat,p.size=vs.length/\arrOf st'=p.map (kas_item (vs.toArray.zip vs.toArray))/\failedOf st'=none/\s'={ s with heap:=((s.heap.update a (Obj.mapSeq λ _=>(#[]:Array Value))).push (seqObj "tuple" vs.toArray 0)).push (seqObj "list" #[] 0) }/\G (p.toList.map λ i=>vs.getD i Value.none))
      rfl cl h64 (λ p st' s' a1 a2 a3 a4=>⟨p,a1,a2,a3,a4⟩) hk) ?_ λ _ _ e=>e)
    rintro ⟨⟨⟩,st'⟩ s' ⟨p,hp,har,hf,rfl,g⟩;dsimp only;have hsz:(List.toArray (p.toList.map λ i=>vs.getD i Value.none)).size=vs.length:=by rw [Ab8,Aa2,Ad2,hp]
    rw [kat_snds rfl har];refine Aa3 (seqEpoch_at ho6 rfl (Aa3 (listUpdate_at ho6 rfl ?_ (Ad3 _) (by rw [hsz];exact line _ h64))));rw [hf];simp only [bne_self_eq_false,Ab9,if_false];exact Aa7 (h _ g (by rw [Aa2,Ad2,hp]))
theorem kas_pure {vs:List Value} {κ:SortKind} {lt:Nat->Nat->Bool} {n:Nat} (hl:∀ i j,i<n->j<n->∀ C:Bool->Shared->Prop,C (lt i j) s->kas_ask prog w A κ vs i j C s) {α:Type} {Q:α->Prop}:∀ (t:KasT α),MSort.KP lt n t Q->
    t.kasWp (kas_ask prog w A κ vs) (λ a s'=>s'=s/\Q a) s
  | .ret a,h=>⟨rfl,h⟩
  | .ask i j k,h=>hl i j h.1 h.2.1 _ (kas_pure hl (k (lt i j)) h.2.2)
end HT
namespace HT
open PySem PySem.Spec PyProof.Rows PySem.W
variable {prog:Program} {w:World} {A:Around} {E:Value->Shared->Prop} {s:Shared}
def lexB (x:Str) (i:Int) (y:Str) (j:Int):Bool:=if x=y then decide (i<j) else decide (x.cps.toList<y.cps.toList)
theorem lex_lt {x y:Str} {i j:Int} {b c:Addr} {t u t' u':Tok} {C:Bool->Shared->Prop} (hb:IsTup s.heap b #[.str x t, .int i u]) (hc:IsTup s.heap c #[.str y t', .int j u']) (h:C (lexB x i y j) s):
    wpAny (model prog w) A (keyLt' (tuples' true) (.ref b) (.ref c)) C (λ _ _=>False) s:=by
  obtain ⟨o,ho, -,n,hd⟩:=hb;obtain ⟨o',ho', -,n',hd'⟩:=hc;refine kat_lt ho hd ho' hd' ?_;show KatLex prog w A true false C [(.str x t, .str y t'),(.int i u, .int j u')] 0 s;refine kat_cons (wpAny_eqBool_str ?_);unfold lexB at h;by_cases e:x=y
  · rw [if_pos e] at h;rw [decide_eq_true e];refine kat_yes (kat_cons (wpAny_eqBool_int ?_));by_cases f:i=j
    · rw [show (i == j)=true by simp [f]];refine kat_yes (kat_nil ?_)
      rwa [show decide (i<j)=false by simp [f]] at h
    · rw [show (i == j)=false by simp [f]];exact kat_no (kat_one _ _ (lt_int h))
  · rw [if_neg e] at h;rw [decide_eq_false e];exact kat_no (oneLt_str h)
theorem kat_strs {h:Heap}:∀ (vs:List Value),(∀ v∈vs,∃ a x i t u,v= .ref a/\IsTup h a #[.str x t, .int i u])->∃ fs,KatTups h vs fs/\fs.length=vs.length/\∀ f∈fs,∃ x t,f=Value.str x t
  | [],_=>⟨[],KatTups.nil,rfl,λ f hf=>by cases hf⟩
  | v::vs,hv=>by
    obtain ⟨a,x,i,t,u,rfl,o,ho,hc,n,hd⟩:=hv v (Ae1 ..);obtain ⟨fs,k,l,g⟩:=kat_strs vs λ v' h'=>hv v' (Ad1 _ h');refine ⟨.str x t::fs,KatTups.cons ho hc hd rfl k,by simp [l],λ f hf=> ?_⟩;rcases Ac2.mp hf with rfl | hf
    · exact ⟨x,t,rfl⟩
    · exact g f hf
theorem kas_mono {κ:SortKind} {vs:List Value} {α:Type} {Q Q':α->Shared->Prop} {t:KasT α} (h:t.kasWp (kas_ask prog w A κ vs) Q s) (hq:∀ a s',Q a s'->Q' a s'):t.kasWp (kas_ask prog w A κ vs) Q' s:=by
  rw [kas_ask_eq] at h ⊢;exact kas_wp_mono h hq
end HT
namespace L2
open PySem PySem.Spec PyProof.Rows PySem.W
structure LexOk (rk:List Key->Nat) (ks:List (List Key)):Prop where
  shp:∀ k∈ks,∃ (x:Str) (i:Int),k=[.inr x, .inl i]
  inj:∀ k∈ks,∀ k'∈ks,rk k=rk k'->k=k'
  ord:∀ (x:Str) (i:Int) (y:Str) (j:Int),([.inr x, .inl i]:List Key)∈ks->([.inr y, .inl j]:List Key)∈ks->HT.lexB x i y j=decide (rk [.inr x, .inl i]<rk [.inr y, .inl j])
theorem E7 {α β:Type} {F:α->β->Prop}:∀ {l₁:List α} {l₂:List β},Paired F l₁ l₂->∀ (i:Nat) (a:α) (b:β),l₁[i]?=some a->l₂[i]?=some b->F a b
  | _,_, .nil,i,a,b,h,_=>by simp at h
  | _,_, .cons r t,0,a,b,h,h'=>by
    simp only [List.getElem?_cons_zero,Ae7.injEq] at h h';subst h;subst h';exact r
  | _,_, .cons r t,i+1,a,b,h,h'=>by
    rw [List.getElem?_cons_succ] at h h';exact E7 t i a b h h'
theorem HP:∀ bs:List Addr,Vals (bs.map V.ref) (bs.map Value.ref)
  | []=> .nil
  | b::bs=> .cons rfl (HP bs)
end L2
namespace L2
open PySem PySem.Spec PyProof.Rows
section
variable {P:Program} {w:World} {K:PySem.W.Frag} {mg:Str->Option Value} {base:Heap} {N:List Str} {qual:Str} {scope:Scope} {f:Addr} {cd:Value} {A:Around} {outer:List Env} {s₀:Shared} {H₀:Hp} {E:XK}
end
section
variable {X:Cx} {pins:List (Addr × Obj)} {σ:St} {H:Hp} {s s₁:Shared} {E:XK} {e:Value}
end
section
variable {X:Cx} {pins pins0:List (Addr × Obj)} {σ:St} {H:Hp} {s:Shared} {xe:Value->Shared->Prop}
end
end L2
namespace L2
open PySem PySem.Spec PyProof.Rows PySem.W
end L2
namespace HT
open PySem PySem.Spec PyProof.Rows PySem.W PySem.Calls PySem.Builtin PySem.Builtin.ObjectAttr PySem.Builtin.Getset_descriptor
def ExcAt (a C:Addr) (h:Heap):Prop:=∃ o,h.get? a=some o/\o.cls= .ref C
structure ExcKind (K:Frag) (C:Addr):Prop where
  cl:(clsIn K C).isSome=true
  ga:findIn K (.ref C) "__getattribute__"=some (some (.builtin "BaseException.__getattribute__"))
  ng:findIn K (.ref C) "__getattr__"=some none
  hb:mroIn K C (.type "BaseException")=some true
  ha:findIn K (.ref C) "__class__"=some (some (.builtin "object.__class__"))
  hn:specialIn K (.builtin "object.__class__") "__get__"=some (some (.builtin "getset_descriptor.__get__"))
  htk:takesIn K (.builtin "object.__class__")=some true
  hm:mroIn K C (.type "object")=some true
theorem ExcAt.type {M:Model} {h:Heap} {a C:Addr} (x:ExcAt a C h):Looks M h (typeOf (.ref a)) (.ref C):=by
  obtain ⟨o,e,c⟩:=x;exact c▸(Looks.ld e).andThen .now
section
variable {prog:Program} {w:World} {A:Around} {E:Value->Shared->Prop} {s:Shared} {K:Frag} {a C:Addr}
end
end HT
namespace L2
open PySem PySem.Spec PyProof.Rows
end L2
namespace HT
open PySem PySem.Spec PyProof.Rows PySem.W
end HT
namespace L2
open PySem PySem.Spec PyProof.Rows
def CallE (P:Program) (w:World) (K:PySem.W.Frag) (mg:Str->Option Value) (base:Heap) (x:Str) (k:Nat) (ps:List Str) (sp:Sp):Prop:=
  ∃ f fd,mg x=some (.ref f)/\PySem.W.keepIn K (.ref f)=true/\FnOk P w K mg base (CXE P w) k f fd ps sp/\Binds K fd ps []
section
variable {X:Cx} {x:Str} {C:Addr} {k:Nat} {ps:List Str} {sp:Sp} {E:XK} {e:Expr} {es:List Expr} {t:TA} {p pos:Pos}
end
section
variable {P:Program} {w:World} {K:PySem.W.Frag} {mg:Str->Option Value} {base:Heap}
end
end L2
namespace HT
open PySem PySem.Spec PyProof.Rows PySem.SeqAt
open PySem.AutoSeq1 (wpAny_loadPart')
open PySem.MeetsSeq PySem.MeetsSeq2 PySem.MeetsSeq3
section
variable {A:Around} {s:Shared}
end
end HT
namespace L2
open PySem PySem.Spec PyProof.Rows
inductive DX where
  | d (d:Dt) | dic | tdic (Bm:List Dt)
inductive Rx (H:Hp) (n:Nat):V->DX->Prop
  | d {v:V} {d:Dt} (r:Rp H FT n v d):Rx H n v (.d d)
  | dic {a:Addr} (h:H a=some (.dK [])):Rx H n (.ref a) .dic
  | tdic {t a:Addr} {ws:List V} {ds:List Dt} (ht:H t=some (.tup (.ref a::ws))) (h:H a=some (.dK [])) (l:ws.length=ds.length) (e:∀ (i:Nat) (v:V) (d:Dt),ws[i]?=some v->ds[i]?=some d->Rp H FT n v d):Rx H n (.ref t) (.tdic ds)
section
variable {X:Cx} {pins:List (Addr × Obj)} {σ:St} {H:Hp} {s:Shared}
end
theorem teJ {t:TE} {σ:St} {H:Hp} {R:VK} (P:V->Hp->Prop) (h1:∀ v H',P v H'->R v H') (h2:∀ R':VK,(∀ v H',P v H'->R' v H')->t σ H R'):t σ H R:=h2 R h1
end L2
namespace L2
open PySem PySem.Spec PyProof.Rows PySem.W
def exO (a:Addr) (o:Obj):HO:= .ext λ h=>h.get? a=some o
section
variable {P:Program} {w:World} {K:PySem.W.Frag} {mg:Str->Option Value} {base:Heap} {N:List Str} {qual:Str} {scope:Scope} {f:Addr} {cd:Value} {cl:List (Str × Addr)} {A:Around} {outer:List Env} {s:Shared} {H:Hp} {E:XK}
structure ClOkL (N:List Str) (scope:Scope) (cl:List (Str × Addr)) (h:Heap) (H:Hp) (vs:List V):Prop where
  len:vs.length=N.length
  inj:∀ x y c,cl.lookup x=some c->cl.lookup y=some c->x=y
  has:∀ x,(scope.names.lookup x=some .cell\/scope.names.lookup x=some .free)->∃ c,cl.lookup x=some c
  val:∀ (i:Nat) (x:Str) (v:V),N[i]?=some x->vs[i]?=some v->∃ c u,scope.names.lookup x=some .free/\cl.lookup x=some c/\RelV v u/\h.IsCell c (some u)
  cell:∀ x c,cl.lookup x=some c->(∃ v,h.IsCell c v)/\H c=none
end
def WD (qual:Str) (oc:Obj):Prop:=∃ vs t,oc.data= .fields vs/\vs[1]?=some (.str qual t)
structure LamX (X:Cx) (c P:Addr):Prop where
  code:X.env.code= .ref c
  hd:CodeHd X.base c P
  blt:X.base.BuiltinsAt X.mg P
section
variable {X:Cx} {pins:List (Addr × Obj)} {σ:St} {H:Hp} {s:Shared}
end
structure LamOk (params:Arguments) (scope:Scope):Prop where
  kind:scope.kind= .function
  co:scope.isCoroutine=false
  gen:scope.isGenerator=false
  cell:∀ x∈scope.names,x.2≠ .cell
  bind:∀ (qual:Str) (body:Expr) (cl:List (Str × Addr)) (pm cdv ctv:Value),bindArgs (kla_fn "<lambda>" qual params body scope cl pm cdv ctv) ⟨[],[]⟩=pure []
section
variable {P:Program} {w:World} {K:PySem.W.Frag} {mg:Str->Option Value} {base:Heap}
structure ThAt (s:Shared) (H:Hp) (outer:List Env) (f c':Addr) (oc:Obj) (N:List Str) (qual:Str) (scope:Scope) (cl:List (Str × Addr)) (params:Arguments) (body:Expr) (pm ctv:Value) (vs:List V):Prop where
  hf:s.heap.get? f=some (kla_obj "<lambda>" qual params body scope cl pm c' ctv)
  hf0:H f=none
  nf:f∉frs outer
  hc:H c'=some (exO c' oc)
  hoc:WD qual oc
  C:ClOkL N scope cl s.heap H vs
  nc:∀ x c,cl.lookup x=some c->c∉frs outer
  lo:LamOk params scope
end
end L2
namespace L2
open PySem PySem.Spec PyProof.Rows
section
variable {X:Cx} {K:PySem.W.Frag} {e lo st:Expr} {te tl ts:TE} {pos p2:Pos}
end
section
variable {J:It} {g:TG} {σ0:St} {H:Hp} {n:Nat} {st:Nat->St} {te:TE} {Q:VK} {D:Addr}
theorem Dv {Pv:Nat->V->Hp->Prop} (S:SrcOk J g σ0 H n st) (hD:H D=none) (hn:n<=100000) (stab:∀ i y H1 H2,Pv i y H1->Same H1 H2->Pv i y H2) (off:∀ i y H1 ys o,Same H H1->Pv i y H1->H1 D=some (.lst ys)->Pv i y (upd H1 D o))
    (he:∀ i H' (R:VK),i<n->Same H H'->(∃ ys,H' D=some (.lst ys))->(∀ H3 y,Same H' H3->Pv i y H3->R y H3)->te (st i) H' R)
    (hd:∀ H' ys,Same H H'->H' D=some (.lst ys)->ys.length=n->(∀ i y,ys[i]?=some y->Pv i y H')->Q (.ref D) H'):
    DK J σ0 g LX te Q H D:=by
  refine ⟨λ i k ys H'=>k=n - i/\i<=n/\Same H H'/\H' D=some (.lst ys)/\ys.length=i/\∀ (j:Nat) (y:V),ys[j]?=some y->Pv j y H',⟨_,rfl,Ad3 _,Bc (Same.refl _) hD,Ac,rfl,λ j y q=>by simp at q⟩,?_⟩;rintro i k ys H1 ⟨rfl,hi,s1,hl,len,el⟩;by_cases hlt:i<n
  · refine .inr ⟨S.go i H1 hlt s1,λ ys' H'=>Same H H'/\H' D=some (.lst ys')/\ys'.length=i+1/\∀ (j:Nat) (y:V),ys'[j]?=some y->Pv j y H',λ ys' H' q=>⟨n - (i+1),by omega,rfl,hlt,q⟩,λ x H2 y=> ?_⟩;refine S.yld i H1 x H2 _ hlt s1 y λ H3 s3=>⟨S.kp i hlt,?_⟩;unfold LX;refine Gy ?_;have hl3:H3 D=some (.lst ys):=s3 _ _ hl;refine he i H3 _ hlt (s1.trans s3) ⟨ys,hl3⟩ λ H5 y s5 py=> ?_;have hl5:H5 D=some (.lst ys):=s5 _ _ hl3;have s15:=s1.trans (s3.trans s5);refine ⟨hl5,?_,?_,Ac,?_,?_⟩
    · exact Ae8 (by omega:ys.length<=100000) (by decide)
    · exact Bc s15 hD
    · rw [Ab0,len];rfl
    · intro j z h1;by_cases hj:j<ys.length
      · rw [Ab5 hj] at h1;exact off j z H5 ys _ s15 (stab j z H1 H5 (el j z h1) (s3.trans s5)) hl5
      · have ej:j=ys.length:=by
          have:=(Ab1.mp h1).1;rw [Ab0] at this;have:([y]:List V).length=1:=rfl;omega
        subst ej;rw [Ac6 (Aa6 _),Nat.sub_self] at h1;cases h1;rw [len];exact off i _ H5 ys _ s15 py hl5
  · have e:i=n:=by omega
    subst e;exact .inl ⟨S.stop H1 s1,hd H1 ys s1 hl len el⟩
end
end L2
namespace HT
open PySem PySem.Spec PyProof.Rows PySem.W
def Xq (xs:Array Nat):Prop:=xs.toList.Pairwise (· < ·)
structure TOk (L:Bool) (t:SetTable):Prop where
  rise:Xq t.place
  dum:t.dummies= #[]
  led:t.led=L
section
variable {prog:Program} {w:World} {A:Around} {E:Value->Shared->Prop} {s:Shared}
structure RawS (a:Addr) (es:Array (Int × Value)) (ep:Nat) (t:SetTable) (h:Heap):Prop where
  at_:∃ o,h.get? a=some o/\o.ExactSet/\o.data= .set es ep t
  fits:t.fits es.size=true
theorem RawS.type {a:Addr} {es:Array (Int × Value)} {ep:Nat} {t:SetTable} (x:RawS a es ep t s.heap):s.TypeIs (.ref a) "set":=by
  obtain ⟨⟨o,ho,hx,_⟩,_⟩:=x;exact ⟨_,ho,hx.1⟩
def SIt (I:Addr) (first:Value) (i:Nat) (a:Addr) (n ep:Nat) (h:Heap):Prop:=∃ o,h.get? I=some o/\o.cls= .type "set_iterator"/\o.data= .fields #[first, .int i 0, .ref a, .int n 0, .int ep 0]
theorem SIt.type {I:Addr} {first:Value} {i:Nat} {a:Addr} {n ep:Nat} (x:SIt I first i a n ep s.heap):s.TypeIs (.ref I) "set_iterator":=by
  obtain ⟨o,ho,hc,_⟩:=x;exact ⟨_,ho,hc⟩
abbrev bt (w:World):Bool:=w.params.followText "set-order"
end
end HT
namespace L2
open PySem PySem.Spec PyProof.Rows PySem.W
structure LamV (P:Program) (w:World) (K:PySem.W.Frag) (mg:Str->Option Value) (base:Heap) (k:Nat) (f:Addr) (sp:Sp):Prop where
  obj:FnAt f base\/keepIn K (.ref f)=true
  run:∀ (A:Around) (outer:List Env) (s:Shared) (H:Hp) (u:Value) (v:V) (Q:VK),Room k A->Env0 P w K mg base A outer s H->RelV v u->sp [v] H Q E0->codeAny (model P w) A (.call (.ref f) ⟨[u],[]⟩) (CR CX0 outer P w H s Q E0) s
section
variable {P:Program} {w:World} {K:PySem.W.Frag} {mg:Str->Option Value} {base:Heap} {N:List Str} {qual x:Str} {scope:Scope} {f:Addr} {cd:Value} {cl:List (Str × Addr)} {A:Around} {outer:List Env} {s:Shared} {H:Hp} {E:XK}
end
end L2
namespace HT
open PySem PySem.Spec PyProof.Rows PySem.W PySem.Calls PySem.Builtin PySem.Builtin.ObjectAttr PySem.Builtin.Getset_descriptor
section
variable {prog:Program} {w:World} {A:Around} {E:Value->Shared->Prop} {s:Shared} {K:Frag} {a C dx:Addr} {o:Obj} {f:Str} {mA:Str->Option Value} {u:Value} {vs:Array Value}
end
end HT
namespace L2
open PySem PySem.Spec PyProof.Rows PySem.W
structure XKind (K:PySem.W.Frag) (C:Addr):Prop extends HT.ExcKind K C where
  hd:(clsIn K C).any (·.hasDict)=true
end L2
namespace HT
open PySem PySem.Spec PyProof.Rows PySem.W PySem.Calls PySem.Builtin PySem.Builtin.ObjectAttr PySem.Builtin.Getset_descriptor
def Ly:List Value:=[.type "ValueError", .type "Exception", .type "BaseException", .type "object"]
def KL:List Value->Bool
  | .ref _::r=>KL r
  | l=>l == Ly
def exOver (K:Frag) (C:Addr):Bool:=(clsIn K C).any λ cd=>KL cd.mro
section
variable {prog:Program} {w:World} {A:Around} {E:Value->Shared->Prop} {s:Shared} {K:Frag} {a C dx:Addr} {o:Obj} {f:Str} {mA:Str->Option Value} {v:Value} {vs:Array Value}
end
end HT
namespace L2
open PySem PySem.Spec PyProof.Rows PySem.W
structure XSet (K:PySem.W.Frag) (C:Addr):Prop where
  sa:findIn K (.ref C) "__setattr__"=some (some (.builtin "object.__setattr__"))
  ov:HT.exOver K C=true
  hd:(clsIn K C).any (·.hasDict)=true
end L2
namespace HT
open PySem PySem.Spec PyProof.Rows PySem.W PySem.Calls PySem.Builtin
def iniIn (K:Frag) (C fi:Addr):Bool:=match K.lookup C with
  | some ⟨.type "type",_, .cls cd,sl⟩=>(match cd.mro,sl.toList with
    | .ref C'::bm,[_,_,_,_,some (.builtin n),_]=>C' == C&&n == "ValueError.__new__"&& !cd.hasDel&&tailIn K Ly bm&&nsOkIn K cd.ns&&nsIn K cd.ns "__init__" == some (some (.ref fi))
    | _,_=>false)
  | _=>false
section
variable {prog:Program} {w:World} {A:Around} {E:Value->Shared->Prop} {s:Shared} {K:Frag} {a C fi t0:Addr} {od:Option Addr} {u:Value}
end
end HT
namespace L2
open PySem PySem.Spec PyProof.Rows PySem.W
structure XBase (K:PySem.W.Frag) (CL:Addr):Prop where
  sp:specialIn K (.ref CL) "__getattribute__"=some (some (.builtin "type.__getattribute__"))
  rd:readsIn K CL (.type "type")=true
  fc:findCls K (.ref CL) (.type "type") "__init__"=some (.val (.builtin "ValueError.__init__"))
section
variable {P:Program} {w:World} {K:PySem.W.Frag} {mg:Str->Option Value} {base:Heap} {N:List Str} {qual:Str} {scope:Scope} {f:Addr} {cd:Value} {A:Around} {outer:List Env} {s₀:Shared} {H₀:Hp} {E:XK}
end
end L2
namespace HT
open PySem PySem.Spec PyProof.Rows PySem.W PySem.Calls PySem.Builtin
end HT
namespace L2
open PySem PySem.Spec PyProof.Rows PySem.W
structure MkI (K:PySem.W.Frag) (C fi:Addr):Prop where
  ini:HT.iniIn K C fi=true
  fn:isFn K (.ref fi)=true
  kp:keepIn K (.ref C)=true
section
variable {K:PySem.W.Frag} {σ:St} {H:Hp} {Q:VK} {D:Ends} {f:Str} {to tv te:TE} {t:TA} {E:XK} {C:Addr} {sp:Sp} {ts:List TE} {out:Str}
end
end L2
namespace L2
open PySem PySem.Spec PyProof.Rows
section
variable {X:Cx} {elts:List Expr} {k:Nat} {tpos:Pos}
end
section
variable {K:PySem.W.Frag} {H:Hp} {i1 i2 off:Nat} {z:Str}
end
section
variable {X:Cx} {K:PySem.W.Frag}
end
section
variable {M:Model} {A:Around} {E:Value->Shared->Prop} {s:Shared} {base:Heap} {e:Addr} {cls a0:Value} {Q:Unit->Shared->Prop}
end
section
variable {X:Cx} {E:XK} {scope:Scope} {own:List Str} {fr:List (Str × Nat)}
end
section
variable {X:Cx} {E:XK}
variable {scope:Scope} {own:List Str} {fr:List (Str × Nat)}
end
end L2
namespace L2
open PySem PySem.Spec PyProof.Rows PySem.W
section
variable {prog:Program} {w:World} {A:Around} {E:Value->Shared->Prop} {s:Shared}
def S0 (t:Addr) (b:Bool) (TI:Addr) (v:Value):Obj:={ cls:= .type "zip",data:= .fields #[rawInt t, .bool b, .bool false, .ref TI,v] }
structure ZipAg (t1 t2:Bool) (h:Heap) (z TI i1 i2 l1 l2 t:Addr) (k:Nat):Prop where
  hz:∃ b v,h.get? z=some (S0 t b TI v)
  ht:∃ o,h.get? t=some o
  hTI:IsPair h TI (.ref i1) (.ref i2)
  h1:Cb t1 h i1 l1 k
  h2:Cb t2 h i2 l2 k
end
section
variable {X:Cx} {pins:List (Addr × Obj)} {σ:St} {H:Hp} {s:Shared} {A:Around} {E:Value->Shared->Prop}
end
section
variable {X:Cx} {K:PySem.W.Frag}
end
end L2
namespace L2
open PySem PySem.Spec PyProof.Rows
def Rc (P:Program) (w:World) (K:PySem.W.Frag) (mg:Str->Option Value) (base:Heap) (k:Nat) (f:Addr) (sp:Sp):Prop:=
  ∃ fd ps,PySem.W.keepIn K (.ref f)=true/\FnOk P w K mg base (CXE P w) k f fd ps sp/\Binds K fd ps []
theorem CallE.val {P:Program} {w:World} {K:PySem.W.Frag} {mg:Str->Option Value} {base:Heap} {x:Str} {k:Nat} {ps:List Str} {sp:Sp} (h:CallE P w K mg base x k ps sp):∃ f,mg x=some (.ref f)/\Rc P w K mg base k f sp:=
  let ⟨f,fd,hm,hk,F,hb⟩:=h;⟨f,hm,fd,ps,hk,F,hb⟩
section
variable {X:Cx} {e o:Expr} {es:List Expr} {t:TA} {to:TE} {pos:Pos} {S:Addr->Sp->Prop} {E:XK}
end
section
variable {X:Cx} {K:PySem.W.Frag} {tg l:Expr} {ta:TA} {p pos:Pos}
end
section
variable {K:PySem.W.Frag} {σ0:St} {H:Hp} {a:Addr} {xs:List V}
end
section
variable {X:Cx} {scope:Scope} {cx:Str}
end
structure FnA (K:PySem.W.Frag) (m q:Str) (st:Stmt) (ps:List Str) (f:Addr) (fd:FuncData):Prop where
  fn:Fun K m q st f fd
  bi:Binds K fd ps []
section
variable {K:PySem.W.Frag} {mg:Str->Option Value} {m q x:Str} {st:Stmt} {ps:List Str} {f:Addr} {fd:FuncData}
theorem def_mk (a:mg x=some (.ref f)) (F:Fun K x x st f fd) (b:∀ us:List Value,us.length=ps.length->bindArgs fd ⟨us,[]⟩=pure (ps.zip us)):DefAt K mg x st ps f fd:=⟨F,a, .all b⟩
theorem fnA_mk (F:Fun K m q st f fd) (b:∀ us:List Value,us.length=ps.length->bindArgs fd ⟨us,[]⟩=pure (ps.zip us)):FnA K m q st ps f fd:=⟨F, .all b⟩
theorem exc_mk {C:Addr} (a:PySem.W.isClsIn K C=true) (b:PySem.W.findIn K (.ref C) "__getattribute__"=some (some (.builtin "BaseException.__getattribute__"))) (c:PySem.W.findIn K (.ref C) "__getattr__"=some none) (d:PySem.W.mroIn K C (.type "BaseException")=some true) (e:PySem.W.findIn K (.ref C) "__class__"=some (some (.builtin "object.__class__")))
    (f:PySem.W.specialIn K (.builtin "object.__class__") "__get__"=some (some (.builtin "getset_descriptor.__get__"))) (g:PySem.W.takesIn K (.builtin "object.__class__")=some true) (h:PySem.W.mroIn K C (.type "object")=some true):HT.ExcKind K C:=⟨a,b,c,d,e,f,g,h⟩
theorem ci_mk {n:Int} {t:Tok} (h:mg x=some (.int n t)):∃ t,mg x=some (.int n t):=⟨t,h⟩
theorem cs_mk {z:Str} {t:Tok} (h:mg x=some (.str z t)):∃ t,mg x=some (.str z t):=⟨t,h⟩
theorem own_nil:Own mg []:=λ _ h=>by cases h
theorem own_cons {xs:List Str} (a:mg x=none) (h:Own mg xs):Own mg (x::xs):=λ y hy=>by
  rcases Ac2.mp hy with rfl | hy
  · exact a
  · exact h y hy
end
section
variable {prog:Program} {w:World} {κ:Type} [DecidableEq κ] (kd:KeyKind prog w κ)
inductive Rows2 (h:Heap):List (List κ)->List Value->Prop
  | nil:Rows2 h [] []
  | cons {k:List κ} {b:Addr} {r:List (List κ)} {us:List Value} (e:IsTupleKey kd h k b) (m:Rows2 h r us):Rows2 h (k::r) (.ref b::us)
def IsT2 (h:Heap) (r:List (List κ)) (b:Addr):Prop:=∃ ob its m,h.get? b=some ob/\ob.cls= .type "tuple"/\ob.data= .seq its m/\Rows2 kd h r its.toList
variable {kd}
theorem Rows2.one {h:Heap} {r r':List (List κ)} {us:List Value} (p:Rows2 kd h r us):Rows2 kd h r' us->r=r':=by
  induction p generalizing r' with
  | nil=>intro q;cases q;rfl
  | cons e _ ih=>
    intro q;cases q with
    | cons e' m'=>rw [IsTupleKey.inj e e',ih m']
theorem Rows2.on {h h':Heap} {d:Addr} {o:Obj} {es ep} {r:List (List κ)} {us:List Value} (ho:h.get? d=some o) (hd:o.data= .dict es ep) (hs:Heap.SameBut d h h') (p:Rows2 kd h r us):Rows2 kd h' r us:=by
  induction p with
  | nil=>exact .nil
  | cons e _ ih=>exact .cons (e.keeps ho hd hs) ih
theorem IsT2.ty {s:Shared} {r:List (List κ)} {b:Addr} (p:IsT2 kd s.heap r b):s.TypeIs (.ref b) "tuple":=by
  obtain ⟨ob,_,_,e,c,_⟩:=p;exact ⟨ob,e,c⟩
theorem IsT2.one {h:Heap} {b:Addr} {r r':List (List κ)} (p:IsT2 kd h r b) (p':IsT2 kd h r' b):r=r':=by
  obtain ⟨ob,its,m,e,_,d,q⟩:=p;obtain ⟨ob',its',m',e',_,d',q'⟩:=p';rw [e] at e';cases e';rw [d] at d';cases d';exact q.one q'
theorem IsT2.on {h h':Heap} {d:Addr} {o:Obj} {es ep} {r:List (List κ)} {b:Addr} (p:IsT2 kd h r b) (ho:h.get? d=some o) (hd:o.data= .dict es ep) (hs:Heap.SameBut d h h'):IsT2 kd h' r b:=by
  obtain ⟨ob,its,m,e,c,q,rw⟩:=p;have ne:b≠d:=λ z=>by
    rw [z,ho] at e;cases e;rw [hd] at q;cases q
  exact ⟨ob,its,m,(hs.2 b ne).trans e,c,q,rw.on ho hd hs⟩
def NB (kd:KeyKind prog w κ) (r:List (List κ)):Int:=reduceHash (Builtin.Tuple.tupleHashOf (r.map (tupleKeyHash kd)))
def HG (r:List (List κ)):Nat:=(r.map λ k=>k.length+1).sum
variable {A:Around} {E:Value->Shared->Prop} {s:Shared}
theorem LW {r:List (List κ)} {b:Addr} {Q:Int->Shared->Prop} (hu:A.units+8<cLine) (p:IsT2 kd s.heap r b) (h:Q (NB kd r) { s with toks:=s.toks+(HG r+1) }):wpAny (model prog w) A (pyHash (.ref b)) Q E s:=by
  have ty:=p.ty;obtain ⟨ob,its,m,e,_,d,rw2⟩:=p;have hu0:A.units<cLine:=Ae8 (Nat.le_add_right _ 8) hu;unfold pyHash
  first | unfold pyHashByItsType | skip
  first | refine Aa3 (wpAny_cRoomFor_or (.inr hu0) ?_) | skip
  refine Aa3 (wpAny_specialOf ty F.slot_tuple_hash.lookup ?_);show wpAny _ _ (if (some (Value.builtin "tuple.__hash__") == some Value.none)=true then _ else _) Q E s;rw [if_neg (by rw [beq_builtin_none];decide)];refine Aa3 (wpAny_specialOf ty F.slot_tuple_hash.lookup ?_);show wpAny _ _ (callSpecialIfBoundUnlessNone? (.ref b) "__hash__" _ >>= _) Q E s;refine Aa3 (wpAny_callSpecialIfBoundUnlessNone?_slot ty F.slot_tuple_hash (Ag1 F.slot_tuple_hash ty F.entry_tuple_hash ?_ (F.args_tuple_hash_1 _)));show wpAny _ _ (Builtin.Tuple.tupleItemsOf (.ref b) >>= _) _ _ s;refine Aa3 (wpAny_tupleItemsOf e d ?_);refine Aa3 ?_;rw [<-Array.forIn_toList];refine wpAny_forIn_list _ (λ Bm (acc:Array Int) s'=>∃ a z,r=a++z/\Rows2 kd s.heap z Bm/\acc.toList=a.map (tupleKeyHash kd)/\s'={ s with toks:=s.toks+HG a }) _ ?_ ?_ _ _ ⟨[],r,rfl,rw2,rfl,rfl⟩
  · rintro x Bm acc s' ⟨a,z,rfl,q,ea,rfl⟩;cases q with
    | @cons k b' z' _ ek q'=>
      refine Aa3 (wpAny_pyHash_tuple (knd:=kd) (ks:=k) ?_ ek ?_)
      · exact Ae8 (Nat.add_le_add_left (by decide:1<=8) _) hu
      have fin:∃ a' z,a++k::z'=a'++z/\Rows2 kd s.heap z Bm/\(acc.push (tupleKeyHash kd k)).toList=a'.map (tupleKeyHash kd)/\({ s with toks:=s.toks+HG a+(k.length+1) }:Shared)={ s with toks:=s.toks+HG a' }:=⟨a++[k],z',by simp,q',by simp [ea],by simp [HG,Nat.add_assoc]⟩
      first
        | exact Aa7 fin
        | exact Aa3 (Aa7 (Aa7 fin))
  · rintro acc s' ⟨a,z,rfl,q,ea,rfl⟩;cases q;rw [Ah8] at h;show wpAny _ _ (retInt (Builtin.Tuple.tupleHashOf acc.toList)) _ _ _;rw [ea];refine wpAny_ret_mkInt ?_;unfold NB reduceHash at h;show wpAny _ _ (if (decide (-(2:Int) ^ 63<=Builtin.Tuple.tupleHashOf (a.map (tupleKeyHash kd)))&&decide (Builtin.Tuple.tupleHashOf (a.map (tupleKeyHash kd))<2 ^ 63))=true then _ else _) Q E _;split at h
    · rename_i hc
      rw [if_pos hc];exact Aa7 (by simpa [Nat.add_assoc] using h)
    · rename_i hc
      rw [if_neg hc];exact Aa3 (wpAny_rule (Aa7 (by simpa [Nat.add_assoc] using h)))
theorem NH {r r':List (List κ)} {a b:Addr} {P:Fin->Shared->Prop} (hu:A.units+1<cLine) (p:IsT2 kd s.heap r a) (p':IsT2 kd s.heap r' b) (h:P (.done (.ret (.bool (decide (r=r'))))) s):
    wpAny (model prog w) A (Builtin.«tuple.__eq__» ⟨[.ref a, .ref b],[]⟩) P E s:=by
  have tb:=p'.ty;obtain ⟨oa,us,na,ea,_,da,ra⟩:=p;obtain ⟨ob,vs,nb,eb,_,db,rb⟩:=p';show wpAny _ _ (isInstance (.ref b) (.type "tuple") >>= _) _ _ s;refine Aa3 (Ai6 tb isSubtype_tuple_tuple ?_);simp only [Bool.not_true,Ab9,if_false];refine Aa3 (wpAny_tupleItemsOf ea da (Aa3 (wpAny_tupleItemsOf eb db (Aa3 ?_))));refine wpAny_forIn_list _ (λ Bm q s'=>q.1=none/\s'=s/\∃ y y' ys ys',Bm=List.zip ys ys'/\Rows2 kd s.heap y ys/\Rows2 kd s.heap y' ys'/\decide (y=y')=decide (r=r')/\(ys.length == ys'.length)=(us.size == vs.size)) _ ?_ ?_ _ _ ⟨rfl,rfl,r,r',us.toList,vs.toList,rfl,ra,rb,rfl,by simp⟩
  · rintro ⟨u,v⟩ Bm q s' ⟨hq,rfl,y,y',ys,ys',hz,hy,hy',hdec,hlen⟩;cases hy with
    | nil=>simp at hz
    | @cons k1 b1 y1 ys1 e1 m1=>
      cases hy' with
      | nil=>simp at hz
      | @cons k2 b2 y2 ys2 e2 m2=>
        simp only [List.zip_cons_cons,List.cons.injEq,Prod.mk.injEq] at hz;obtain ⟨⟨rfl,rfl⟩,rfl⟩:=hz;refine Aa3 (wpAny_eqBool_tuple (knd:=kd) (x:=k1) (y:=k2) (Nat.lt_of_succ_lt hu) e1 e2 ?_);by_cases hk:k1=k2
        · subst hk;rw [decide_eq_true rfl];simp only [Bool.not_true,Ab9,if_false];refine Aa7 ⟨rfl,rfl,y1,y2,ys1,ys2,rfl,m1,m2,?_,by simpa using hlen⟩;rw [<-hdec];exact decide_eq_decide.mpr ⟨λ z=>by rw [z],λ z=>(List.cons.inj z).2⟩
        · rw [decide_eq_false hk];simp only [Bool.not_false,if_true];rw [<-hdec,decide_eq_false (λ z=>hk (List.cons.inj z).1)] at h;exact Aa3 (Aa7 (Aa7 (Aa7 h)))
  · rintro ⟨q1,q2⟩ s' ⟨hq,rfl,y,y',ys,ys',hz,hy,hy',hdec,hlen⟩;have hq:q1=none:=hq;subst hq;refine Aa7 ?_;show P (.done (.ret (.bool (us.size == vs.size)))) s';have same:(us.size == vs.size)=decide (r=r'):=by
      rw [<-hdec, <-hlen];cases hy with
      | nil=>
        cases hy' with
        | nil=>simp
        | cons _ _=>simp
      | cons _ _=>
        cases hy' with
        | nil=>simp
        | cons _ _=>simp at hz
    rw [same];exact h
theorem OP {r r':List (List κ)} {a b:Addr} {Q:Bool->Shared->Prop} (hu:A.units+8<cLine) (p:IsT2 kd s.heap r a) (p':IsT2 kd s.heap r' b) (h:Q (decide (r=r')) s):wpAny (model prog w) A (eqBool (.ref a) (.ref b)) Q E s:=by
  unfold eqBool
  try with_reducible refine Ah9 ?_
  show wpAny _ _ (if (Value.ref a == Value.ref b)=true then _ else _) Q E s;by_cases ab:a=b
  · subst ab;rw [if_pos (beq_self_eq_true _)];rw [decide_eq_true (p.one p')] at h;exact Aa3 (wpAny_rule (Aa7 h))
  · rw [if_neg (by simpa using ab)];refine Aa3 (wpAny_richCompare_same_room (op:= .Eq) p.ty p'.ty F.slot_tuple_eq (Ag1 F.slot_tuple_eq p.ty F.entry_tuple_eq ?_ (F.args_tuple_eq_2 _ _)) (Ae8 (Nat.le_add_right _ 8) hu));refine NH ?_ p p' ⟨_,rfl,(λ z=>nomatch z),Ai0 h⟩;exact Ae8 (show A.units+1+1<=A.units+8 by omega) hu
theorem RM {k:List κ} {b:Addr} {n:Nat} {Q:Bool->Shared->Prop} (p:IsTupleKey kd s.heap k b) (h:Q true s):wpAny (model prog w) A (eqIsQuiet (n+1) (.ref b)) Q E s:=by
  have ty:=p.typeIs;obtain ⟨ob,its,m,e,_,d,rw1⟩:=p;unfold eqIsQuiet;refine Aa3 (wpAny_specialOf ty F.slot_tuple_eq.lookup ?_);show wpAny _ _ (isInstance (.ref b) (.type "tuple") >>= _) _ _ s;refine Aa3 (Ai6 ty isSubtype_tuple_tuple ?_);simp only [Bool.not_true,Ab9,if_false];refine Aa3 (wpAny_seqItems e d (Aa3 ?_));show wpAny _ _ (forIn its _ _) _ _ s;rw [<-Array.forIn_toList];refine wpAny_forIn_list _ (λ Bm q s'=>q.1=none/\s'=s/\∀ v∈Bm,carriedByValue v=true) _ ?_ ?_ _ _ ⟨rfl,rfl,rw1.byValue⟩
  · rintro v Bm q s' ⟨_,rfl,al⟩;rw [eqIsQuiet_byValue _ (al v (Ae1 ..))];refine Aa3 (Aa7 ?_);simp only [Bool.not_true,Ab9,if_false];exact Aa7 ⟨rfl,rfl,λ u z=>al u (Ad1 _ z)⟩
  · rintro ⟨q1,q2⟩ s' ⟨hq,rfl,_⟩;have hq:q1=none:=hq;subst hq;exact Aa7 h
theorem SB {r:List (List κ)} {b:Addr} {Q:Bool->Shared->Prop} (p:IsT2 kd s.heap r b) (h:Q true s):wpAny (model prog w) A (eqIsQuiet 8 (.ref b)) Q E s:=by
  have ty:=p.ty;obtain ⟨ob,its,m,e,_,d,rw2⟩:=p;unfold eqIsQuiet;refine Aa3 (wpAny_specialOf ty F.slot_tuple_eq.lookup ?_);show wpAny _ _ (isInstance (.ref b) (.type "tuple") >>= _) _ _ s;refine Aa3 (Ai6 ty isSubtype_tuple_tuple ?_);simp only [Bool.not_true,Ab9,if_false];refine Aa3 (wpAny_seqItems e d (Aa3 ?_));show wpAny _ _ (forIn its _ _) _ _ s;rw [<-Array.forIn_toList];refine wpAny_forIn_list _ (λ Bm q s'=>q.1=none/\s'=s/\∃ z,Rows2 kd s.heap z Bm) _ ?_ ?_ _ _ ⟨rfl,rfl,r,rw2⟩
  · rintro v Bm q s' ⟨_,rfl,z,al⟩;cases al with
    | @cons k b' z' _ ek m'=>
      refine Aa3 (RM (kd:=kd) (k:=k) ek ?_);simp only [Bool.not_true,Ab9,if_false];exact Aa7 ⟨rfl,rfl,z',m'⟩
  · rintro ⟨q1,q2⟩ s' ⟨hq,rfl,_⟩;have hq:q1=none:=hq;subst hq;exact Aa7 h
end
def IV {prog:Program} {w:World} {κ:Type} [DecidableEq κ] (kd:KeyKind prog w κ):HeapKind prog w (List (List κ)) where
  is:=IsT2 kd
  hash:=NB kd
  draws:=λ r=>HG r+1
  room:=λ A=>A.units+8<cLine
  inj:=λ p p'=>p.one p'
  keeps:=λ p ho hd hs=>p.on ho hd hs
  pyHash:=λ hu p h=>LW hu p h
  eqBool:=λ hu p p' h=>OP hu p p' h
  quiet:=λ p h=>SB p h
section
variable {prog:Program} {w:World} {κ:Type} [DecidableEq κ] {kd:HeapKind prog w κ} {A:Around} {E:Value->Shared->Prop} {s:Shared}
theorem Ks {d b:Addr} {xs:List (κ × Addr × Value)} {k:κ} {u:Value} {Q:Value->Shared->Prop} (hu:kd.room A) (hk:kd.is s.heap k b) (hm:s.heap.DictOfH kd d xs) (hz:xs.length<=sizeLine)
    (old:∀ p,atKey xs k=some p->Q p.2 { s with toks:=s.toks+kd.draws k })
    (new:atKey xs k=none->∀ h',h'.DictOfH kd d (xs++[(k,b,u)])->Heap.SameBut d s.heap h'->Q u { s with heap:=h',toks:=s.toks+kd.draws k }):
    wpAny (model prog w) A (dictSetDefault d (.ref b) u) Q E s:=by
  obtain ⟨o,es,ep,ho,hc,hd,he,his,hn⟩:=hm;unfold dictSetDefault
  try with_reducible refine Ah9 ?_
  refine Aa3 (kd.pyHash hu hk (Aa3 (wpAny_dictFind_heap (s:={ s with toks:=s.toks+kd.draws k }) hu hk ho hd he his hn ?_ ?_)))
  · intro no;have none':=atKey_none_of_get no;have nin:k∉xs.map (·.1):=not_mem_keys_of_get no;have sz:=size_of_entries he;have sb:Heap.SameBut d s.heap (s.heap.update d λ o=>o.mapDictKeys (·.push ⟨kd.hash k, .ref b,u⟩)):=Heap.SameBut.update ..;refine Aa3 (wpAny_rule (Aa3 (wpAny_updateDictKeys (hz:=by omega) (s:={ s with toks:=s.toks+kd.draws k }) ho hd (Aa7 (new none' _ ⟨_,_,ep+1,Ag5 _ ho (Obj.isFreed_of_dict (Obj.data_mapDictKeys hd _)),hc.mapDictKeys _,Obj.data_mapDictKeys hd _,?_,?_,?_⟩ sb)))))
    · simp [he,entryOfKey]
    · intro x hx;rcases Ac4.mp hx with z | z
      · exact kd.keeps (his x z) ho hd sb
      · rw [Ab7.mp z];exact kd.keeps hk ho hd sb
    · rw [Ac5,Ah0];refine ⟨hn,by simp,λ x hx y hy e=> ?_⟩;rw [Af0,List.map_nil,Ab7] at hy;rw [e,hy] at hx;exact nin hx
  · intro j p hj;refine Aa3 (Ai7 (s:={ s with toks:=s.toks+kd.draws k }) ho hd ?_);rw [entry_at he j,hj];exact Aa3 (wpAny_rule (Aa7 (old _ (atKey_of_get hn hj))))
theorem Jq {d b:Addr} {xs:List (κ × Addr × Value)} {k:κ} {u:Value} {P:Fin->Shared->Prop} (hu:kd.room A) (hs:(d == sysModules)=false) (hk:kd.is s.heap k b) (hm:s.heap.DictOfH kd d xs) (hz:xs.length<=sizeLine)
    (old:∀ p,atKey xs k=some p->P (.done (.ret p.2)) { s with toks:=s.toks+kd.draws k })
    (new:atKey xs k=none->∀ h',h'.DictOfH kd d (xs++[(k,b,u)])->Heap.SameBut d s.heap h'->P (.done (.ret u)) { s with heap:=h',toks:=s.toks+kd.draws k }):
    wpAny (model prog w) A (Builtin.«dict.setdefault» ⟨[.ref d, .ref b,u],[]⟩) P E s:=by
  unfold Builtin.«dict.setdefault»;refine Aa3 ?_;unfold Builtin.Dict.keyAndDefault;refine Aa3 (wpAny_notOrdered_dict hm.typeIs ?_);show wpAny _ _ (pure (d,Value.ref b,some u)) _ _ s;refine Aa7 ?_;show wpAny _ _ (if (d == sysModules)=true then _ else (dictSetDefault d (.ref b) u >>= _)) _ _ s;rw [if_neg (by rw [hs];decide)];exact Aa3 (Ks hu hk hm hz (λ p e=>Aa7 (old p e)) λ e h' m' sb=>Aa7 (new e h' m' sb))
end
abbrev En2:=List (List Key) × Addr × Addr
def en2 (x:En2):List (List Key) × Addr × Value:=(x.1,x.2.1, .ref x.2.2)
def d2O (P:Program) (w:World) (d:Addr) (xs:List En2):HO:= .ext λ h=>(d == sysModules)=false/\∃ o es ep,h.get? d=some o/\o.ExactDict/\o.data= .dict es ep/\es.toList=(xs.map en2).map (entryOfKey (IV (AF P w)))
def KeyAt (H:Hp) (r:List (List Key)) (b:Addr):Prop:=∃ bs:List Addr,H b=some (.tup (bs.map V.ref))/\bs.length=r.length/\∀ (i:Nat) (k:List Key) (c:Addr),r[i]?=some k->bs[i]?=some c->H c=some (.tup (k.map kV))
theorem KeyAt.same {H H':Hp} {r:List (List Key)} {b:Addr} (p:KeyAt H r b) (s:Same H H'):KeyAt H' r b:=by
  obtain ⟨bs,e,l,el⟩:=p;exact ⟨bs,s _ _ e,l,λ i k c h1 h2=>s _ _ (el i k c h1 h2)⟩
section
variable {P:Program} {w:World} {H:Hp} {h:Heap}
theorem Js (ok:HOk P w H h):∀ (r:List (List Key)) (bs:List Addr) (us:List Value),bs.length=r.length->(∀ (i:Nat) (k:List Key) (c:Addr),r[i]?=some k->bs[i]?=some c->H c=some (.tup (k.map kV)))->Vals (bs.map V.ref) us->Rows2 (AF P w) h r us
  | [],[],us,_,_,v=>by cases v;exact .nil
  | k::r,c::bs,us,l,el,v=>by
    cases v with
    | @cons _ u _ us' rv rs=>
      obtain rfl:u=Value.ref c:=rv;exact .cons (Ef ok (el 0 k c rfl rfl)) (Js ok r bs us' (Nat.succ.inj l) (λ i k c h1 h2=>el (i+1) k c h1 h2) rs)
  | [],_::_,_,l,_,_=>by cases l
  | _::_,[],_,l,_,_=>by cases l
theorem Lg {r:List (List Key)} {b:Addr} (ok:HOk P w H h) (p:KeyAt H r b):IsT2 (AF P w) h r b:=by
  obtain ⟨bs,e,l,el⟩:=p;obtain ⟨_,its,v,o,h1,h2,n,h3⟩:=(show ObjOk P w H h b (.tup (bs.map V.ref)) from ok b _ e);exact ⟨o,its.toArray,n,h1,h2,h3,by simpa using Js ok r bs its l el v⟩
theorem VF {d:Addr} {xs:List En2} (ok:HOk P w H h) (e:H d=some (d2O P w d xs)) (ks:∀ x∈xs,KeyAt H x.1 x.2.1) (nd:(xs.map (·.1)).Nodup):(d == sysModules)=false/\h.DictOfH (IV (AF P w)) d (xs.map en2):=by
  obtain ⟨⟨ns,o,es,ep,h1,h2,h3,h4⟩,_⟩:=(show ObjOk P w H h d (d2O P w d xs) from ok d _ e);refine ⟨ns,o,es,ep,h1,h2,h3,h4,λ y hy=> ?_,?_⟩
  · obtain ⟨x,hx,rfl⟩:=Ab2.mp hy;exact Lg ok (ks x hx)
  · rw [Ac8];exact nd
theorem QP {d:Addr} {xs:List En2} {h':Heap} {H':Hp} (ns:(d == sysModules)=false) (m:h'.DictOfH (IV (AF P w)) d (xs.map en2)):ObjOk P w H' h' d (d2O P w d xs):=by
  obtain ⟨o,es,ep,h1,h2,h3,h4,_,_⟩:=m;exact ⟨⟨ns,o,es,ep,h1,h2,h3,h4⟩,⟨o,h1⟩,λ _ _ ⟨ns,o,es,ep,h1,h2,h3,h4⟩ k=>⟨ns,o,es,ep,k _ h1,h2,h3,h4⟩⟩
end
theorem OE (xs:List En2) (r:List (List Key)):atKey (xs.map en2) r=(xs.find? λ x=>decide (x.1=r)).map λ x=>(x.2.1,Value.ref x.2.2):=by
  unfold atKey
  induction xs with
  | nil=>rfl
  | cons x xs ih=>
    rw [Af0,Aj8,Aj8];by_cases h:x.1=r
    · rw [show decide ((en2 x).1=r)=true from decide_eq_true h,decide_eq_true h];rfl
    · rw [show decide ((en2 x).1=r)=false from decide_eq_false h,decide_eq_false h];exact ih
def Xb (P:Program) (w:World):V->List V->Hp->VK->Prop:=λ x ys H Q=>∃ (d b l:Addr) (xs:List En2) (r:List (List Key)),x= .ref d/\ys=[.ref b, .ref l]/\H d=some (d2O P w d xs)/\(∀ x∈xs,KeyAt H x.1 x.2.1)/\(xs.map (·.1)).Nodup/\KeyAt H r b/\xs.length<1000/\
  (∀ x,(xs.find? λ x=>decide (x.1=r))=some x->Q (.ref x.2.2) H)/\((xs.find? λ x=>decide (x.1=r))=none->Q (.ref l) (upd H d (d2O P w d (xs++[(r,b,l)]))))
theorem L0 {X:Cx} (hu:X.A.units+64<cLine):MtR X "dict.setdefault" (Xb X.prog X.w):=by
  intro pins s σ H x ys v us Q I rx rv h;obtain ⟨d,b,l,xs,r,rfl,rfl,hd,ks,nd,kb,hz,old,new⟩:=h;cases rx;cases rv with
  | @cons _ u1 _ us1 q1 rr=>
    cases rr with
    | @cons _ u2 _ us2 q2 rr2=>
      cases rr2;obtain rfl:u1=Value.ref b:=q1;obtain rfl:u2=Value.ref l:=q2;obtain ⟨ns,dd⟩:=VF I.hok hd ks nd;have hz2:(xs.map en2).length<=sizeLine:=by rw [Aa2,sizeLine_eq];omega
      refine PySem.wpAny_call_entry PySem.F.slot_dict_setdefault dd.typeIs PySem.F.entry_dict_setdefault ?_ (PySem.F.args_dict_setdefault_3 _ _ _);refine Jq (kd:=IV (AF X.prog X.w)) ?_ ns (Lg I.hok kb) dd hz2 (λ p e=> ?_) λ e h' m' sb=> ?_
      · exact Ae8 (show X.A.units+1+8<=X.A.units+64 by omega) hu
      · rw [OE] at e;obtain ⟨x,hx,rfl⟩:=Ah1.mp e;exact ⟨_,rfl, .ref x.2.2,H,I.tok _,rfl,old x hx⟩
      · rw [OE] at e;have no:=Option.map_eq_none_iff.mp e;have he:∃ q,h'.get? d=some q:=let ⟨q,_,_,hq,_⟩:=m';⟨q,hq⟩;exact ⟨_,rfl, .ref l,_,FU I (by rw [hd];exact True.intro) sb he (QP ns (by rw [Ac5];exact m')),rfl,new no⟩
def Td (P:Program) (w:World):TE:=λ _ H Q=>∀ p,H p=none->Q (.ref p) (upd H p (d2O P w p []))
theorem NL {X:Cx} {pos:Pos}:PE X (.Dict [] [] pos) (Td X.prog X.w):=λ pins s σ H Q I h=>
  wpAny_Dict_empty ⟨.ref s.heap.objs.size,_,I.laid (a:=s.heap.objs.size) (o:=d2O X.prog X.w s.heap.objs.size []) (t':=s.toks) (λ _ _ q=>Aa4 _ q) (Aa6 _) (QP (by
    have:=I.big;rw [beq_eq_false_iff_ne];exact λ z=>absurd this (by rw [<-z];exact Ae5 _)) (Heap.DictOfH.new _)),rfl,h _ (I.hok.fresh (Aa6 _))⟩
end L2
namespace HT
open PySem PySem.Spec PyProof.Rows PySem.W
variable {prog:Program} {w:World} {A:Around} {E:Value->Shared->Prop} {s:Shared}
def rawIt (it d:Addr) (i n ep:Nat) (p q x y:Value) (h:Heap):Prop:=
  h.get? it=some ⟨.type "dict_itemiterator",none, .fields #[p,q, .ref d, .int i 0, .int n 0, .int ep 0,x,y], #[]⟩
theorem rawIt.type {it d:Addr} {i n ep:Nat} {p q x y:Value} (z:rawIt it d i n ep p q x y s.heap):s.TypeIs (.ref it) "dict_itemiterator":=⟨_,z,rfl⟩
def Dh (k v:Value):Obj:=⟨.type "tuple",none, .seq #[k,v], #[]⟩
def rawOwn (it S:Addr) (p q:Value) (h:Heap):Prop:=(p= .none/\q= .bool false)\/∃ a f oa,p=rawInt ((a:Nat):Int)/\q= .bool f/\h.get? a=some oa/\a≠it/\a≠S
theorem rawOwn.to {it S:Addr} {p q:Value} {h h':Heap} (z:rawOwn it S p q h) (k:∀ b o,b≠it->b≠S->h.get? b=some o->h'.get? b=some o):rawOwn it S p q h':=
  z.imp id λ ⟨a,f,oa,h1,h2,h3,h4,h5⟩=>⟨a,f,oa,h1,h2,k a oa h4 h5 h3,h4,h5⟩
def RSt (it d S:Addr) (i n ep:Nat) (h:Heap):Prop:=∃ p q x y,rawIt it d i n ep p q x y h/\rawOwn it S p q h
theorem RSt.to {it d S:Addr} {i n ep:Nat} {h h':Heap} (z:RSt it d S i n ep h) (ne:it≠S) (k:∀ b o,b≠S->h.get? b=some o->h'.get? b=some o):RSt it d S i n ep h':=
  let ⟨p,q,x,y,h1,h2⟩:=z;⟨p,q,x,y,k _ _ ne h1,h2.to λ b o _ hs=>k b o hs⟩
theorem Mg {it d S:Addr} {i n ep:Nat} {k v:Value} {Q:Value->Shared->Prop} (z:RSt it d S i n ep s.heap) (hS:S<s.heap.objs.size)
    (g:∀ h',RSt it d S i n ep h'->h'.get? s.heap.objs.size=some (Dh k v)->h'.objs.size=s.heap.objs.size+1->(∀ b o,b≠it->s.heap.get? b=some o->h'.get? b=some o)->Q (.ref s.heap.objs.size) { s with heap:=h' }):
    wpAny (model prog w) A (Builtin.Dict_items.pairFromOwner (.ref it) 6 k v) Q E s:=by
  obtain ⟨hp,gg,dr,tk,os⟩:=s;obtain ⟨p,q,x,y,z,own⟩:=z;have il:it<hp.objs.size:=Aa9 z;unfold Builtin.Dict_items.pairFromOwner;refine Aa3 (wpAny_newTuple ?_);have z2:rawIt it d i n ep p q x y (hp.push (Dh k v)):=Aa4 _ z;have t2:(hp.push (Dh k v)).get? hp.objs.size=some (Dh k v):=Ab3 _ rfl;have n2:(hp.push (Dh k v)).objs.size=hp.objs.size+1:=Heap.size_push ..;have k2:∀ b o,hp.get? b=some o->(hp.push (Dh k v)).get? b=some o:=λ b o e=>Aa4 _ e;show wpAny _ _ (Builtin.Dict_items.ownedTupleIsFree (.ref it) >>= _) _ _ ⟨hp.push (Dh k v),gg,dr,tk,os⟩;generalize hp.push (Dh k v)=h2 at z2 t2 n2 k2 ⊢;refine Aa3 ?_;unfold Builtin.Dict_items.ownedTupleIsFree;rcases own with ⟨rfl,rfl⟩ | ⟨a,f,oa,rfl,rfl,ha,hai,haS⟩
  · refine Aa3 (wpAny_field z2 rfl (x:= .none) rfl (Aa7 ?_));simp only [if_true];refine Aa3 (wpAny_field z2 rfl (x:=x) rfl (Aa3 (wpAny_field z2 rfl (x:=y) rfl ?_)));refine Aa3 (wpAny_setField_rec z2 (by simp) λ h3 z3 b3=>Aa3 (wpAny_setField_rec z3 (by simp) λ h4 z4 b4=>Aa3 (wpAny_setField_rec z4 (by simp) λ h5 z5 b5=>Aa3 (wpAny_setField_rec z5 (by simp) λ h6 z6 b6=> ?_))));replace b3:Heap.SameBut it h2 h3:=b3;replace b4:Heap.SameBut it h3 h4:=b4;replace b5:Heap.SameBut it h4 h5:=b5;replace b6:Heap.SameBut it h5 h6:=b6;have all:∀ b o,b≠it->h2.get? b=some o->h6.get? b=some o:=λ b o hb e=>b6.extBut b o hb (b5.extBut b o hb (b4.extBut b o hb (b3.extBut b o hb e)));have t6:=all _ _ (Aj6 il) t2;replace z6:rawIt it d i n ep (rawInt ((hp.objs.size:Nat):Int)) (.bool false) k v h6:=z6;exact Aa3 (wpAny_letGo (Aa7 (g h6 ⟨_,_,_,_,z6, .inr ⟨_,_,_,rfl,rfl,t6,Aj6 il,Aj6 hS⟩⟩ t6 (by show h6.objs.size=_;rw [b6.1,b5.1,b4.1,b3.1,n2]) λ b o hb e=>all b o hb (k2 b o e))))
  · refine Aa3 (wpAny_field z2 rfl (x:=rawInt ((a:Nat):Int)) rfl ?_);show wpAny _ _ (loadIfAlive ((a:Int).toNat) >>= _) _ _ _;rw [Ab6];refine Aa3 (kdx_alive (k2 a oa ha) ?_);simp only [Option.isNone_some,Ab9,if_false];refine Aa3 (wpAny_field z2 rfl (x:= .bool f) rfl ?_);have fin:∀ h3,rawIt it d i n ep (rawInt ((a:Nat):Int)) (.bool true) x y h3->Heap.SameBut it h2 h3->Q (.ref hp.objs.size) ⟨h3,gg,dr,tk,os⟩:=λ h3 z3 b3=>
      g h3 ⟨_,_,_,_,z3, .inr ⟨a,_,oa,rfl,rfl,b3.extBut _ _ hai (k2 a oa ha),hai,haS⟩⟩ (b3.extBut _ _ (Aj6 il) t2) (by show h3.objs.size=_;rw [b3.1,n2]) λ b o hb e=>b3.extBut b o hb (k2 b o e)
    cases f with
    | true=>
      rw [if_neg (show ¬ ((Value.bool true != Value.bool true)=true) from Ab4)];refine Aa7 ?_;simp only [Ab9,if_false];exact Aa7 (fin h2 z2 (Heap.SameBut.refl _ _))
    | false=>
      rw [if_pos (show (Value.bool false != Value.bool true)=true from rfl)];refine Aa3 (wpAny_setField_rec z2 (by simp) λ h3 z3 b3=>Aa7 ?_);simp only [Ab9,if_false];exact Aa7 (fin h3 z3 b3)
theorem Ni {it d S:Addr} {i ep:Nat} {es:Array DictEntry} {e:DictEntry} {Q:Option Value->Shared->Prop} (z:RSt it d S i es.size ep s.heap) (hS:S<s.heap.objs.size) (hiS:it≠S) (hm:RawD d es ep s.heap) (hx:es[i]?=some e)
    (g:∀ h',RSt it d S (i+1) es.size ep h'->h'.get? s.heap.objs.size=some (Dh e.key e.val)->h'.objs.size=s.heap.objs.size+1->(∀ b o,b≠it->s.heap.get? b=some o->h'.get? b=some o)->Q (some (.ref s.heap.objs.size)) { s with heap:=h' }):
    wpAny (model prog w) A (pyNext (.ref it)) Q E s:=by
  obtain ⟨hp,gg,dr,tk,os⟩:=s;obtain ⟨p,q,x,y,z,own⟩:=z;obtain ⟨od,hod, -,hdd⟩:=hm;have T:Shared.TypeIs ⟨hp,gg,dr,tk,os⟩ (.ref it) "dict_itemiterator":=⟨_,z,rfl⟩;have yes:Builtin.Dict_items.ownsTuple "dict_itemiterator"=true:=by decide
  unfold pyNext;refine Aa3 (wpAny_attempt (Ag7 (name:=Str.ofString "__next__") T PySem.F.slot_dict_itemiterator_next (Ag1 PySem.F.slot_dict_itemiterator_next T PySem.F.entry_dict_itemiterator_next ?_ (PySem.F.args_dict_itemiterator_next_1 _))));refine Aa3 (Aa7 (Aa3 (Aa3 (Aa3 (Aj0 T (Aa7 (Aa3 (wpAny_fieldsOf z rfl ?_))))))));simp only [yes,if_true];show wpAny _ _ (if (Value.ref d == Value.none)=true then _ else _) _ _ _;rw [if_neg (show ¬ ((Value.ref d == Value.none)=true) from Ab4)];refine Aa3 (Aa7 (Aa3 (Ai7 hod hdd ?_)));rw [if_neg (by simp)];refine Aa3 (Aa7 (Aa3 (wpAny_dictEpoch hod hdd ?_)));rw [if_neg (by simp)];refine Aa7 ?_;simp only [show ¬ ((i:Int)<0) from by omega,if_false,Ab6,hx];refine Aa3 (Aa3 (Aj0 T (Aa7 (Aa3 (wpAny_isOneOf_itemiter T ?_)))));show wpAny _ _ (setField (.ref it) 3 (rawInt ((i:Int)+1)) >>= _) _ _ _;refine Aa3 (wpAny_setField_rec z (by simp) λ h1 z1 b1=> ?_);replace b1:Heap.SameBut it hp h1:=b1;replace z1:rawIt it d (i+1) es.size ep p q x y h1:=by
    have e:((i+1:Nat):Int)=(i:Int)+1:=by omega
    unfold rawIt;rw [e];simpa [rawInt] using z1
  have T1:Shared.TypeIs ⟨h1,gg,dr,tk,os⟩ (.ref it) "dict_itemiterator":=⟨_,z1,rfl⟩;refine Aa3 (Ah9 (Aa3 (wpAny_isOneOf_itemiter T1 (Aa3 (wpAny_isOneOf_itemiter T1 ?_)))));show wpAny _ _ (Builtin.Dict_items.pairFromOwner (.ref it) 6 e.key e.val) _ _ ⟨h1,gg,dr,tk,os⟩;have n1:h1.objs.size=hp.objs.size:=b1.1;refine Mg (S:=S) ⟨_,_,_,_,z1,own.to λ b o hb _ e=>b1.extBut b o hb e⟩ (by show S<h1.objs.size;rw [n1];exact hS) λ h' st t nn kk=> ?_;dsimp only at t nn kk ⊢;rw [n1] at t nn ⊢;exact Aa7 ⟨_,rfl,Aa7 (g h' st t nn λ b o hb e=>kk b o hb (b1.extBut b o hb e))⟩
theorem Hs {it d S:Addr} {i ep:Nat} {es:Array DictEntry} {Q:Option Value->Shared->Prop} (hh:A.handled=none) (z:RSt it d S i es.size ep s.heap) (hm:RawD d es ep s.heap) (hx:es[i]?=none)
    (g:∀ h',Heap.ExtBut it s.heap h'->Q none { s with heap:=h' }):wpAny (model prog w) A (pyNext (.ref it)) Q E s:=by
  obtain ⟨p,q,x,y,z, -⟩:=z;obtain ⟨od,hod, -,hdd⟩:=hm;have T:=z.type;have yes:Builtin.Dict_items.ownsTuple "dict_itemiterator"=true:=by decide
  unfold pyNext;refine Aa3 (wpAny_attempt (Ag7 (name:=Str.ofString "__next__") T PySem.F.slot_dict_itemiterator_next (Ag1 PySem.F.slot_dict_itemiterator_next T PySem.F.entry_dict_itemiterator_next ?_ (PySem.F.args_dict_itemiterator_next_1 _))));refine Aa3 (Aa7 (Aa3 (Aa3 (Aa3 (Aj0 T (Aa7 (Aa3 (wpAny_fieldsOf z rfl ?_))))))));simp only [yes,if_true];show wpAny _ _ (if (Value.ref d == Value.none)=true then _ else _) _ _ s;rw [if_neg (show ¬ ((Value.ref d == Value.none)=true) from Ab4)];refine Aa3 (Aa7 (Aa3 (Ai7 hod hdd ?_)));rw [if_neg (by simp)];refine Aa3 (Aa7 (Aa3 (wpAny_dictEpoch hod hdd ?_)));rw [if_neg (by simp)];refine Aa7 ?_;simp only [show ¬ ((i:Int)<0) from by omega,if_false,Ab6,hx];refine Aa3 (Aa3 (Aj0 T (Aa7 ?_)));show wpAny _ _ (setField (.ref it) 2 .none >>= _) _ _ s;refine Aa3 (wpAny_setField z rfl (by simp) ?_);show wpAny _ _ (newExc (.type "StopIteration") [] >>= _) _ _ _;refine Aa3 ?_;simp only [newExc,newTuple];refine Aa3 (Ag3 (Aa3 (m:=firstArgMember _ _) (wpAny_of_eq (a:=Value.none) (by first | rfl | (simp only [firstArgMember];rfl)) (Ag3 ?_ (by size_fits)))) (by size_fits));simp only [raiseNew];refine Aa3 (wpAny_handled ?_);rw [show A.in1.handled=none from hh];refine Aa3 (Aa7 (wpAny_throw ?_));exact Aa3 (Ai6 (T:="StopIteration") (b:=true) ⟨_,Ab3 _ rfl,rfl⟩ isSubtype_stop (Aa7 (g _ (((Heap.SameBut.update ..).extBut.push _).push _))))
structure PairsAt (es:Array DictEntry) (lo:Addr) (h:Heap) (as:List Addr):Prop where
  up:as.Pairwise (· < ·)
  lo:∀ a∈as,lo<a
  at':∀ (j:Nat) (a:Addr),as[j]?=some a->∃ e,es[j]?=some e/\h.get? a=some (Dh e.key e.val)
theorem PairsAt.to {es:Array DictEntry} {lo:Addr} {h h':Heap} {as:List Addr} (g:PairsAt es lo h as) (k:∀ b o,lo<b->h.get? b=some o->h'.get? b=some o):PairsAt es lo h' as:=
  ⟨g.up,g.lo,λ j a hj=>let ⟨e,h1,h2⟩:=g.at' j a hj;⟨e,h1,k a _ (g.lo a (Ad0 hj)) h2⟩⟩
theorem PairsAt.low {es:Array DictEntry} {lo lo':Addr} {h:Heap} {as:List Addr} (g:PairsAt es lo h as) (l:lo'<=lo):PairsAt es lo' h as:=⟨g.up,λ a ha=>Ae8 l (g.lo a ha),g.at'⟩
theorem PairsAt.add {es:Array DictEntry} {lo n:Addr} {h:Heap} {as:List Addr} {e:DictEntry} (g:PairsAt es lo h as) (hn:∀ a∈as,a<n) (l:lo<n) (hx:es[as.length]?=some e) (hy:h.get? n=some (Dh e.key e.val)):PairsAt es lo h (as++[n]) where
  up:=Ah6.mpr ⟨g.up,List.pairwise_singleton _ _,λ a ha b hb=>by rw [Ab7.mp hb];exact hn a ha⟩
  lo:=λ a ha=>(Ac4.mp ha).elim (g.lo a) λ hb=>by rw [Ab7.mp hb];exact l
  at':=λ j b hj=>by
    rcases Ad4 j as.length with h1 | h1
    · rw [Ab5 h1] at hj;exact g.at' j b hj
    · rw [Ac6 h1] at hj;obtain ⟨h2,h3⟩:j - as.length=0/\n=b:=by
        cases c:j - as.length with
        | zero=>rw [c] at hj;exact ⟨rfl,by simpa using hj⟩
        | succ m=>rw [c] at hj;simp at hj
      obtain rfl:j=as.length:=by omega
      exact ⟨e,hx,h3▸hy⟩
theorem Kh {S I d:Addr} {es:Array DictEntry} {ep:Nat} {R:Result->Shared->Prop} (hh:A.handled=none) (SI:S<I) (dS:d≠S) (dI:d≠I) (hn:es.size<=sizeLine) (res:Value) {h₁:Heap}
    (hR:∀ h' tk acc c as,(∀ b o,b≠S->b≠I->h₁.get? b=some o->h'.get? b=some o)->h'.get? S=some ⟨.type "list",none, .seq acc c, #[]⟩->as.length=es.size->PairsAt es I h' as->acc.toList=as.map Value.ref->R (.ok (.ret res)) { s with heap:=h',toks:=tk }):
    ∀ (k:Nat) (h:Heap) (tk c:Nat) (acc:Array Value) (as:List Addr),as.length+k=es.size->RSt I d S as.length es.size ep h->RawD d es ep h->(∀ b o,b≠S->b≠I->h₁.get? b=some o->h.get? b=some o)->
      h.get? S=some ⟨.type "list",none, .seq acc c, #[]⟩->acc.toList=as.map Value.ref->PairsAt es I h as->I<h.objs.size->codeAny (model prog w) A (.builtin "list.extend.loop" ⟨[.ref S, .ref I,res],[]⟩) R { s with heap:=h,toks:=tk }:=by
  have ne:S≠I:=Ac9 SI;intro k
  induction k with
  | zero=>
    intro h tk c acc as hk st hD kp hS hacc hG hI;refine codeAny_builtin PySem.F.entry_extend_loop ?_;rw [Around.under_plainId PySem.F.plain_extend_loop _];show wpAny _ A.in1 (pyNext (.ref I) >>= _) _ _ _;exact Aa3 (Hs (s:={ s with heap:=h,toks:=tk }) (A:=A.in1) hh st hD (by simp;omega) λ h' he=>Aa7 (hR h' tk acc c as (λ b o h1 h2 e=>he b o h2 (kp b o h1 h2 e)) (he S _ ne hS) (by omega) (hG.to λ b o hb e=>he b o (Aj6 hb) e) hacc))
  | succ k ih=>
    intro h tk c acc as hk st hD kp hS hacc hG hI;have lt:as.length<es.size:=by omega
    have sz:acc.size=as.length:=by rw [<-Ad2,hacc,Aa2]
    have hx:es[as.length]?=some es[as.length]:=by simp [lt]
    have Sl:S<h.objs.size:=Aa9 hS;refine codeAny_builtin PySem.F.entry_extend_loop ?_;rw [Around.under_plainId PySem.F.plain_extend_loop _];show wpAny _ A.in1 (pyNext (.ref I) >>= _) _ _ _;refine Aa3 (Ni (s:={ s with heap:=h,toks:=tk }) (S:=S) st Sl (Ne.symm ne) hD hx λ h' st' t n' kk=> ?_);dsimp only at t n' kk ⊢;have S':=kk S _ ne hS;have up:∀ b o,b≠S->h'.get? b=some o->(h'.update S (Obj.mapSeq (·.push (Value.ref h.objs.size)))).get? b=some o:=λ b o hb e=>(Af7 _ _ (Ne.symm hb)).trans e;have t':=up _ _ (Aj6 Sl) t;have small:∀ a∈as,a<h.objs.size:=λ a ha=>let ⟨j,hj⟩:=Af4.mp ha;let ⟨_,_,e⟩:=hG.at' j a hj;Aa9 e;show wpAny _ A.in1 (updateSeq S (·.push (Value.ref h.objs.size)) >>= _) _ _ _;refine Aa3 (wpAny_updateSeq S' rfl (Aa7 ⟨plainId_quiet PySem.F.plain_extend_loop _,ih _ tk _ (acc.push (Value.ref h.objs.size)) (as++[h.objs.size]) (by rw [Ab0,Af3];omega) ?_ (hD.to λ o e=>up d o dS (kk d o dI e)) (λ b o h1 h2 e=>up b o h1 (kk b o h2 (kp b o h1 h2 e)))
      (Ag5 _ S' rfl) (by rw [Array.toList_push,hacc,Ac5];rfl) ?_ (Ae6 hI (Aa9 t'))⟩) (by rw [sz];omega) (by show (acc.push (Value.ref h.objs.size)).size<=sizeLine+1;rw [Array.size_push,sz];omega))
    · rw [Ab0,Af3];exact st'.to (Ne.symm ne) up
    · exact (hG.to λ b o hb e=>up b o (Aj6 (Ae6 SI hb)) (kk b o (Aj6 hb) e)).add small hI hx t'
theorem Kg {v d:Addr} {es:Array DictEntry} {ep:Nat} {Q:Value->Shared->Prop} (hv:s.heap.IsItemsView v d) (hm:RawD d es ep s.heap)
    (g:Q (.ref s.heap.objs.size) { s with heap:=s.heap.push ⟨.type "dict_itemiterator",none, .fields #[.none, .bool false, .ref d, .int 0 0, .int es.size 0, .int ep 0, .none, .none], #[]⟩ }):wpAny (model prog w) A (pyIter (.ref v)) Q E s:=by
  have T:=hv.typeIs;obtain ⟨ov,ho,hc,hd⟩:=hv;obtain ⟨od,hod, -,hdd⟩:=hm;have yes:Builtin.Dict_items.ownsTuple "dict_itemiterator"=true:=by decide
  refine wpAny_pyIter_slot T PySem.F.slot_dict_items_iter (Ag1 PySem.F.slot_dict_items_iter T PySem.F.entry_dict_items_iter ?_ (PySem.F.args_dict_items_iter_1 _));unfold Builtin.«dict_items.__iter__» Builtin.Dict_items.dictOf Builtin.Dict_items.newIterator;refine Aa3 (Aa7 (Aa3 (Aa3 (wpAny_field ho hd (x:= .ref d) rfl (Aa7 ?_)))));refine Aa3 (Aa3 (Ai7 hod hdd (Aa3 (wpAny_dictEpoch hod hdd ?_))));simp only [yes,if_true];refine Ag3 (Aa7 ⟨_,rfl,"dict_itemiterator",_,⟨_,Ab3 _ rfl,rfl⟩,PySem.F.slot_dict_itemiterator_next.lookup,?_⟩) ?_
  · simpa [rawInt,Builtin.Dict_items.ownedTupleFields] using g
  · simp only [sizeOk,Builtin.Dict_items.ownedTupleFields,Ab8,Ab0,Ad8,List.length_nil,sizeLine_eq];omega
abbrev KJ (prog:Program) (w:World) (A:Around) (R:Result->Shared->Prop):PySem.Fin->Shared->Prop:=λ fin s'=>match fin with | .done f=>R (.ok f) s' | .again c'=>c'.quiet=true/\codeAny (model prog w) A c' R s'
theorem Ih {r d S:Addr} {es:Array DictEntry} {ep c₀:Nat} {R:Result->Shared->Prop} (hh:A.handled=none) (hv:s.heap.IsItemsView r d) (hm:RawD d es ep s.heap) (Sr:S≠r) (Sd:d≠S) (res:Value) (hS:s.heap.get? S=some ⟨.type "list",none, .seq #[] c₀, #[]⟩)
    (hR:∀ h' tk acc c as,(∀ b o,b≠S->s.heap.get? b=some o->h'.get? b=some o)->h'.get? S=some ⟨.type "list",none, .seq acc c, #[]⟩->as.length=es.size->PairsAt es s.heap.objs.size h' as->acc.toList=as.map Value.ref->R (.ok (.ret res)) { s with heap:=h',toks:=tk }) (hn:es.size<=sizeLine):
    wpAny (model prog w) A.in1 (Builtin.List.listExtendWith (.ref S) (.ref r) res) (KJ prog w A R) (λ e s'=>R (.error e) s') s:=by
  have SI:S<s.heap.objs.size:=Aa9 hS;have dI:d<s.heap.objs.size:=Aa9 hm.choose_spec.1;have go:∀ (h:Heap) (c₁ tk:Nat),(∀ b o,b≠S->(s.heap.push ⟨.type "dict_itemiterator",none, .fields #[.none, .bool false, .ref d, .int 0 0, .int es.size 0, .int ep 0, .none, .none], #[]⟩).get? b=some o->h.get? b=some o)->
      h.get? S=some ⟨.type "list",none, .seq #[] c₁, #[]⟩->codeAny (model prog w) A (.builtin "list.extend.loop" ⟨[.ref S, .ref s.heap.objs.size,res],[]⟩) R { s with heap:=h,toks:=tk }:=by
    intro h c₁ tk hk hS1;have hI:=hk s.heap.objs.size _ (Aj6 SI) (Ab3 _ rfl);exact Kh (es:=es) (ep:=ep) (s:=s) (h₁:=s.heap) hh SI Sd (Ac9 dI) hn res (λ h' tk' acc c as k' S' l G a=>hR h' tk' acc c as (λ b o hb e=>k' b o hb (Ac9 (Aa9 e)) e) S' l G a)
      es.size h tk c₁ #[] [] (Nat.zero_add _) ⟨_,_,_,_,hI, .inl ⟨rfl,rfl⟩⟩ (hm.to λ o e=>hk d o Sd (Aa4 _ e)) (λ b o hb _ e=>hk b o hb (Aa4 _ e)) hS1 rfl ⟨.nil,λ _ ha=>(List.not_mem_nil ha).elim,λ j a hj=>by simp at hj⟩ (Aa9 hI)
  unfold Builtin.List.listExtendWith;refine Aa3 (wpAny_typeOf (T:="dict_items") hv.typeIs ?_);simp only [show Builtin.List.listSameRef (.ref S) (.ref r)=false by simp [Builtin.List.listSameRef,Sr],show (Value.type "dict_items" == Value.type "list")=false by decide,show (Value.type "dict_items" == Value.type "tuple")=false by decide,Bool.or_false,Ab9,if_false];refine Aa3 (Kg hv hm ?_);have hS1:=Aa4 ⟨.type "dict_itemiterator",none, .fields #[.none, .bool false, .ref d, .int 0 0, .int es.size 0, .int ep 0, .none, .none], #[]⟩ hS;refine Aa3 (Ah9 (kdx_hint (let ⟨o,ho,hc,_⟩:=hv;⟨o,Aa4 _ ho,hc⟩) (wpAny_ite_split (λ _=> ?_) λ _=>Aa7 ⟨plainId_quiet PySem.F.plain_extend_loop _,go _ c₀ _ (λ b o _ e=>e) hS1⟩)));refine Aa3 (wpAny_rule (Aa3 ?_));show wpAny _ _ (updateSeq S (·.push .none) >>= λ _=>updateSeq S (·.pop)) _ _ _;refine Aa3 (wpAny_updateSeq hS1 rfl ?_);have hS2:=Ag5 (Obj.mapSeq (·.push Value.none)) hS1 rfl;exact wpAny_updateSeq (hz:=by seq_fits) hS2 rfl (Aa7 ⟨plainId_quiet PySem.F.plain_extend_loop _,go _ _ _ (λ b o hb e=>(Af7 _ _ (Ne.symm hb)).trans ((Af7 _ _ (Ne.symm hb)).trans e)) (Ag5 (Obj.mapSeq (·.pop)) hS2 rfl)⟩)
theorem Kf {r d S:Addr} {es:Array DictEntry} {ep:Nat} {R:Result->Shared->Prop} (hh:A.handled=none) (hv:s.heap.IsItemsView r d) (hm:RawD d es ep s.heap) (Sr:S≠r) (Sd:d≠S) (hS:s.heap.get? S=some ⟨.type "list",none, .seq #[] 0, #[]⟩)
    (hR:∀ h' tk acc c as,(∀ b o,b≠S->s.heap.get? b=some o->h'.get? b=some o)->h'.get? S=some ⟨.type "list",none, .seq acc c, #[]⟩->as.length=es.size->PairsAt es S h' as->acc.toList=as.map Value.ref->R (.ok (.ret .none)) { s with heap:=h',toks:=tk }) (hn:es.size<=sizeLine):
    wpAny (model prog w) A.in1 (Builtin.«list.__init__» ⟨[.ref S, .ref r],[]⟩) (KJ prog w A R) (λ e s'=>R (.error e) s') s:=by
  show wpAny _ _ (do let old <-Builtin.List.listItems (.ref S);Builtin.List.listUpdate (.ref S) (λ _=> #[]);letGo old.toList.reverse;Builtin.List.listExtendWith (.ref S) (.ref r) .none) (KJ prog w A R) _ s;unfold Builtin.List.listItems;refine Aa3 (Aa3 (wpAny_seqItems hS rfl (Aa7 ?_)));show wpAny _ _ (updateSeq S (λ _=> #[]) >>= λ _=>letGo (#[]:Array Value).toList.reverse >>= λ _=>Builtin.List.listExtendWith (.ref S) (.ref r) .none) (KJ prog w A R) _ s;refine Aa3 (wpAny_updateSeq hS rfl (Aa3 (wpAny_letGo ?_)));have hS2:=Ag5 (Obj.mapSeq (λ _=>(#[]:Array Value))) hS rfl;have oth:∀ b o,b≠S->s.heap.get? b=some o->(s.heap.update S (Obj.mapSeq (λ _=>(#[]:Array Value)))).get? b=some o:=λ b o hb e=>(Af7 _ _ (Ne.symm hb)).trans e;exact Ih (es:=es) (ep:=ep) hh (let ⟨o,ho,x⟩:=hv;⟨o,oth r o Sr.symm ho,x⟩) (hm.to λ o e=>oth d o Sd e) Sr Sd .none hS2 (λ h' tk acc c as hk S' hl hG a=>hR h' tk acc c as (λ b o hb e=>hk b o hb (oth b o hb e)) S' hl (hG.low (Ai4 (Aa9 hS2))) a) hn
theorem pairs_list {r d:Addr} {es:Array DictEntry} {ep:Nat} {Q:Value->Shared->Prop} (hh:A.handled=none) (hv:s.heap.IsItemsView r d) (hm:RawD d es ep s.heap) (hn:es.size<=sizeLine)
    (g:∀ h' tk acc c as,(∀ b o,s.heap.get? b=some o->h'.get? b=some o)->h'.get? s.heap.objs.size=some ⟨.type "list",none, .seq acc c, #[]⟩->as.length=es.size->PairsAt es s.heap.objs.size h' as->acc.toList=as.map Value.ref->Q (.ref s.heap.objs.size) { s with heap:=h',toks:=tk }):
    wpAny (model prog w) A (call (.type "list") [.ref r]) Q E s:=by
  refine callType_codes (Q₁:=λ obj s₁=>obj= .ref s.heap.objs.size/\s₁={ s with heap:=s.heap.push ⟨.type "list",none, .seq #[] 0, #[]⟩ }) PySem.F.called_list (PySem.F.typeCall_list_1 _) PySem.F.entry_list_init (code_list_new _ ⟨rfl,rfl⟩) λ obj s₁ h₁=> ?_;obtain ⟨rfl,rfl⟩:=h₁;have hS:(s.heap.push ⟨.type "list",none, .seq #[] 0, #[]⟩).get? s.heap.objs.size=some ⟨.type "list",none, .seq #[] 0, #[]⟩:=Ab3 _ rfl;have hr:r<s.heap.objs.size:=let ⟨_,ho,_⟩:=hv;Aa9 ho;have hd:d<s.heap.objs.size:=Aa9 hm.choose_spec.1;refine ⟨⟨_,hS,rfl⟩,PySem.F.args_list_init_2 _ _,?_⟩;exact Kf (es:=es) (ep:=ep) (A:=A.in1) hh (let ⟨o,ho,x⟩:=hv;⟨o,Aa4 _ ho,x⟩) (hm.to λ o e=>Aa4 _ e) (Aj6 hr) (Ac9 hd) hS (λ h' tk acc c as hk S' hl hG a=>⟨rfl,g h' tk acc c as (λ b o e=>hk b o (Ac9 (Aa9 e)) (Aa4 _ e)) S' hl hG a⟩) hn
theorem pairs_view {d:Addr} {es:Array DictEntry} {ep:Nat} {R:PySem.Fin->Shared->Prop} (ns:(d == sysModules)=false) (hm:RawD d es ep s.heap)
    (g:R (.done (.ret (.ref s.heap.objs.size))) { s with heap:=s.heap.push ⟨.type "dict_items",none, .fields #[.ref d], #[]⟩ }):wpAny (model prog w) A (Builtin.«dict.items» ⟨[.ref d],[]⟩) R E s:=by
  unfold Builtin.«dict.items» Builtin.Dict.noArgs;refine Aa3 (Aa3 (wpAny_notOrdered_dict hm.type ?_));show wpAny _ _ (pure d) _ _ s;refine Aa7 ?_;show wpAny _ _ (Builtin.Dict.showsAll d >>= _) _ _ s;unfold Builtin.Dict.showsAll;rw [if_neg (by rw [ns];exact Ab4)];exact Aa3 (Aa7 (Aa3 (Ag3 (Aa7 g))))
end HT
namespace L2
open PySem PySem.Spec PyProof.Rows
def Gn:Hp->List (Addr × HO)->Hp
  | H,[]=>H
  | H,p::r=>upd (Gn H r) p.1 p.2
theorem Ii {H:Hp} {a:Addr}:∀ {ps:List (Addr × HO)},a∉ps.map (·.1)->Gn H ps a=H a
  | [],_=>rfl
  | p::r,h=>by
    rw [Af0,Ac2,not_or] at h;show upd (Gn H r) p.1 p.2 a=_;rw [Ak h.1];exact Ii h.2
theorem JG {H:Hp}:∀ {ps:List (Addr × HO)} {a:Addr} {o:HO},Gn H ps a=some o->(a,o)∈ps\/H a=some o
  | [],_,_,e=> .inr e
  | p::r,a,o,e=>by
    by_cases h:a=p.1
    · subst h;have e:upd (Gn H r) p.1 p.2 p.1=some o:=e;rw [Ac] at e;cases e;exact .inl (.head _)
    · have e:upd (Gn H r) p.1 p.2 a=some o:=e;rw [Ak h] at e;exact (JG e).imp (.tail _) id
theorem Iv {H:Hp}:∀ {ps:List (Addr × HO)} {a:Addr} {o:HO},(ps.map (·.1)).Nodup->(a,o)∈ps->Gn H ps a=some o
  | p::r,a,o,nd,h=>by
    have nd:=Ag2.mp nd;rcases Ac2.mp h with h | h
    · subst h;exact Ac
    · have ne:a≠p.1:=λ z=>nd.1 (Ab2.mpr ⟨(a,o),h,z⟩);show upd (Gn H r) p.1 p.2 a=_;rw [Ak ne];exact Iv nd.2 h
section
variable {X:Cx} {pins:List (Addr × Obj)} {σ:St} {H H':Hp} {s:Shared} {h':Heap}
theorem Inv.laidS {t':Nat} (I:Inv X pins σ H s) (k:∀ b u,s.heap.get? b=some u->h'.get? b=some u) (old:∀ b u,H b=some u->H' b=some u) (new:∀ b u,H' b=some u->H b=some u\/(s.heap.objs.size<=b/\ObjOk X.prog X.w H' h' b u)):
    Inv X pins σ H' { s with heap:=h',toks:=t' }:=by
  refine I.un ⟨λ b u q _ _ _=>k b u q,λ b u q _ _ _=>⟨u.slots,k b u q⟩,λ b u q n _=> ?_,λ b u q _=>⟨u,k b u q⟩,λ b xs q=>old _ _ q,λ b u xs q=>old _ _ q,λ b ps q=>⟨#[],by rw [old _ _ q];simp⟩⟩ λ b u e=> ?_
  · cases c:H' b with
    | none=>rfl
    | some u=>
      rcases new b u c with z | z
      · rw [n] at z;cases z
      · exact absurd (Ac3 (Aa9 q) z.1) (Ae5 _)
  · rcases new b u e with z | z
    · exact (I.hok b u z).stay (λ c v _ q=>k c v q) (λ c q=>old _ _ q) λ c xs q=>old _ _ q
    · exact z.2
end
def viO (r d:Addr):HO:= .ext λ h=>h.IsItemsView r d
theorem VY {P:Program} {w:World} {H:Hp} {h:Heap} {r d:Addr} (ok:HOk P w H h) (e:H r=some (viO r d)):h.IsItemsView r d:=(show ObjOk P w H h r (viO r d) from ok r _ e).1
theorem J3 {P:Program} {w:World} {H:Hp} {h:Heap} {d:Addr} {xs:List En2} (ok:HOk P w H h) (e:H d=some (d2O P w d xs)):(d == sysModules)=false/\∃ es ep,HT.RawD d es ep h/\es.toList=(xs.map en2).map (entryOfKey (IV (AF P w))):=by
  obtain ⟨⟨ns,o,es,ep,h1,h2,h3,h4⟩,_⟩:=(show ObjOk P w H h d (d2O P w d xs) from ok d _ e);exact ⟨ns,es,ep,⟨o,h1,h2,h3⟩,h4⟩
def Qj (P:Program) (w:World):V->List V->Hp->VK->Prop:=λ x ys H Q=>∃ (d:Addr) (xs:List En2),x= .ref d/\ys=[]/\H d=some (d2O P w d xs)/\∀ r,H r=none->Q (.ref r) (upd H r (viO r d))
theorem MF {X:Cx}:MtR X "dict.items" (Qj X.prog X.w):=by
  intro pins s σ H x ys v us Q I rx rv h;obtain ⟨d,xs,rfl,rfl,hd,g⟩:=h;cases rx;cases rv;obtain ⟨ns,es,ep,hm, -⟩:=J3 I.hok hd;refine PySem.wpAny_call_entry PySem.F.slot_dict_items hm.type PySem.F.entry_dict_items ?_ (PySem.F.args_dict_items_1 _);refine HT.pairs_view ns hm ⟨_,rfl, .ref s.heap.objs.size,_,I.laid (a:=s.heap.objs.size) (o:=viO s.heap.objs.size d) (t':=s.toks) (λ _ _ q=>Aa4 _ q) (Aa6 _) ?_,rfl,g _ (I.hok.fresh (Aa6 _))⟩;exact ⟨⟨_,Ab3 _ rfl,rfl,rfl⟩,⟨_,Ab3 _ rfl⟩,λ _ _ ⟨o,ho,x⟩ k=>⟨o,k _ ho,x⟩⟩
def prO (x:En2):HO:= .tup [.ref x.2.1, .ref x.2.2]
def SW (P:Program) (w:World) (ys:List V) (H:Hp) (Q:VK):Prop:=∃ (r d:Addr) (xs:List En2),ys=[.ref r]/\H r=some (viO r d)/\H d=some (d2O P w d xs)/\xs.length<1000/\
  ∀ (l:Addr) (ts:List Addr),H l=none->ts.length=xs.length->(l::ts).Nodup->(∀ t∈ts,H t=none)->Q (.ref l) (Gn H ((l, .lst (ts.map V.ref))::ts.zip (xs.map prO)))
theorem Kn {X:Cx} (hc:X.calm=true):Bh X (.type "list") (SW X.prog X.w):=by
  intro pins s σ H ys us Q I rv h;obtain ⟨r,d,xs,rfl,hr,hd,hz,g⟩:=h;obtain ⟨u,rfl,ru⟩:=Ds rv;cases ru;obtain ⟨ns,es,ep,hm,hes⟩:=J3 I.hok hd;have hsz:es.size=xs.length:=by rw [<-Ad2,hes,Aa2,Aa2]
  refine HT.pairs_list (I.ok.hd hc) (VY I.hok hr) hm (by rw [hsz,sizeLine_eq];omega) λ h' tk acc c as hk hS hl hG hacc=> ?_;have ll:as.length=xs.length:=by rw [hl,hsz]
  have nl:s.heap.objs.size∉as:=λ z=>Ae5 _ (hG.lo _ z);have nd:(s.heap.objs.size::as).Nodup:=Ag2.mpr ⟨nl,hG.up.imp λ z=>Ac9 z⟩;have fr:∀ b,s.heap.objs.size<=b->H b=none:=λ b z=>I.hok.fresh z;have key:∀ b u,(b,u)∈(s.heap.objs.size,HO.lst (as.map V.ref))::as.zip (xs.map prO)->s.heap.objs.size<=b/\ObjOk X.prog X.w (Gn H ((s.heap.objs.size,HO.lst (as.map V.ref))::as.zip (xs.map prO))) h' b u:=by
    intro b u hb;rcases Ac2.mp hb with hb | hb
    · cases hb;refine ⟨Aa6 _,by rw [Aa2,ll,sizeLine_eq];omega,acc.toList,c,?_,by simpa using hS⟩;rw [hacc];exact FR (by simp) λ j u hu=>by
        rw [Aa8] at hu ⊢;obtain ⟨a,ha,rfl⟩:=Ah1.mp hu;exact ⟨.ref a,by rw [ha];rfl,rfl⟩
    · obtain ⟨j,hj⟩:=Af4.mp hb;obtain ⟨h1,h2⟩:=List.getElem?_zip_eq_some.mp hj;rw [Aa8] at h2;obtain ⟨x,hx,rfl⟩:=Ah1.mp h2;obtain ⟨e,he,hg⟩:=hG.at' j b h1;rw [<-Ai1,hes,Aa8,Aa8,hx] at he;cases he;exact ⟨Ai4 (hG.lo b (Ad0 h1)),by show 2<=sizeLine;rw [sizeLine_eq];omega,[.ref x.2.1, .ref x.2.2], .cons rfl (.cons rfl .nil),_,hg,rfl,_,rfl⟩
  refine ⟨.ref s.heap.objs.size,_,I.laidS (t':=tk) hk (λ b u e=> ?_) λ b u e=> ?_,rfl,g _ as (fr _ (Aa6 _)) ll nd λ t ht=>fr t (Ai4 (hG.lo t ht))⟩
  · rw [Ii]
    · exact e
    · intro z;obtain ⟨p,hp,rfl⟩:=Ab2.mp z;rw [fr _ (key p.1 p.2 hp).1] at e;cases e
  · exact (JG e).elim (λ z=> .inr (key b u z)) .inl
def Nf (P:Program) (w:World) (x:V) (H:Hp):Prop:=∃ d xs,x= .ref d/\H d=some (d2O P w d xs)
theorem QR {X:Cx} {pins:List (Addr × Obj)} {σ:St} {H:Hp} {s:Shared} {x:V} {v:Value} (I:Inv X pins σ H s) (r:RelV x v) (h:Nf X.prog X.w x H):s.TypeIs v "dict"/\∀ a,v= .ref a->∃ ob,s.heap.get? a=some ob/\ob.dict=none:=by
  obtain ⟨d,xs,rfl,e⟩:=h;cases r;obtain ⟨-,es,ep,hm, -⟩:=J3 I.hok e;refine ⟨hm.type,λ a q=> ?_⟩;cases q;obtain ⟨o,h1,h2, -⟩:=hm;exact ⟨o,h1,h2.2.1⟩
def V0 (P:Program) (w:World) (r:V->List V->Hp->VK->Prop) (to:TE):TE:=λ σ H Q=>to σ H λ x H1=>Nf P w x H1/\r x [] H1 Q
def tBD (P:Program) (w:World) (r:V->List V->Hp->VK->Prop) (to:TE) (t:TA):TE:=λ σ H Q=>to σ H λ x H1=>Nf P w x H1/\t σ H1 λ xs H2=>r x xs H2 Q
section
variable {P:Program} {w:World} {H:Hp} {Q:VK} {σ:St} {to:TE} {t:TA} {r:V->List V->Hp->VK->Prop}
theorem Sk (h:to σ H λ x H1=>Nf P w x H1/\r x [] H1 Q):V0 P w r to σ H Q:=h
theorem Ww (h:to σ H λ x H1=>Nf P w x H1/\t σ H1 λ xs H2=>r x xs H2 Q):tBD P w r to t σ H Q:=h
end
variable {X:Cx} {o e:Expr} {es:List Expr} {to:TE} {t:TA} {name:Str} {apos cpos:Pos} {id:String} {r:V->List V->Hp->VK->Prop}
theorem RE (slot:Slot "dict" name id) (hty:typeOf (.builtin id)=pure (.type "method_descriptor")) (hm:MtR X id r) (ho:PE X o to) (hbase:attributeBase o name X.env (eval o X.env)=eval o X.env:=by rfl) (hline:(apos.endLine == cpos.line)=true:=by rfl):
    PE X (.Call (.Attribute o name apos) [] [] cpos) (V0 X.prog X.w r to):=by
  intro pins s σ H Q I h;refine wpAny_Call_method0_late hbase hline (thn (ho pins s σ H _ I h) λ v s1 ⟨x,H1,I1,r1,ty,q1⟩=> ?_);have hh:=QR I1 r1 ty;exact ⟨"dict",id,PySem.F.plainAttrs_dict,slot,hty,hh.1,hh.2,Calls.callWith_builtin rfl (PySem.evalArgs_none (hm pins s1 σ H1 x [] v [] Q I1 r1 .nil q1))⟩
theorem UO (slot:Slot "dict" name id) (hty:typeOf (.builtin id)=pure (.type "method_descriptor")) (hm:MtR X id r) (ho:PE X o to) (ha:PA X (e::es) t) (hbase:attributeBase o name X.env (eval o X.env)=eval o X.env:=by rfl)
    (hfew:((backTo cpos (starEach (e::es) X.env)).all (λ x=> !x.1)&&(backToKw cpos (keywordEach [] X.env)).all (λ x=>x.1.isSome)&&decide ((e::es).length+([]:List Keyword).length+(if ([]:List Keyword).isEmpty then 0 else 1)<30))=true:=by rfl)
    (hline:(apos.endLine == cpos.line)=true:=by rfl) (hs:starEach (e::es) X.env=(false,eval e X.env)::starEach es X.env:=by rfl) (hplain:(backTo cpos (starEach es X.env)).any (·.1)=false:=by rfl):
    PE X (.Call (.Attribute o name apos) (e::es) [] cpos) (tBD X.prog X.w r to t):=by
  intro pins s σ H Q I h;refine wpAny_Call_method_late hbase hfew hline rfl (thn (ho pins s σ H _ I h) λ v s1 ⟨x,H1,I1,r1,ty,q1⟩=> ?_);have hh:=QR I1 r1 ty;refine ⟨"dict",id,PySem.F.plainAttrs_dict,slot,hty,hh.1,hh.2,?_⟩;have hA:=ha cpos pins s1 σ H1 _ I1 q1;rw [hs] at hA ⊢;exact Calls.callWith_builtin (by show (false||(backTo cpos (starEach es X.env)).any (·.1))=false;rw [hplain] <;> rfl) (Calls.evalArgs_plain (thn hA λ us s2 ⟨vs,H2,I2,r2,q2⟩=>hm pins s2 σ H2 x vs v us Q I2 r1 r2 q2))
end L2
namespace L2
open PySem PySem.Spec PyProof.Rows PySem.W
section
variable {K:PySem.W.Frag} {a b:Addr} {xs zs:List V} {H:Hp} {σ0:St}
end
end L2
namespace L2
open PySem PySem.Spec PyProof.Rows
section
variable {X:Cx} {x m:Str} {C:Addr} {k:Nat} {ps:List Str} {sp:Sp} {E:XK} {o e:Expr} {es:List Expr} {t:TA} {ta:TE} {p pos apos:Pos}
end
structure FunD (K:PySem.W.Frag) (x qual:Str) (st:Stmt) (f:Addr) (fd:FuncData):Prop where
  ex:∃ (oc:Value) (od:Option Addr) (dV kV doc pm:Value) (an:Option Addr) (cdv ct:Value) (osl:Array (Option Value)),
    fd=PySem.W.fnOf x qual (DE st) (CQ st) (Ai st) dV kV doc pm an cdv ct/\K.lookup f=some ⟨oc,od, .func fd,osl⟩/\PySem.W.codeIn K cdv qual=true
structure FnAD (K:PySem.W.Frag) (m q:Str) (st:Stmt) (ps:List Str) (f:Addr) (fd:FuncData):Prop where
  fn:FunD K m q st f fd
  bi:Binds K fd ps []
  bn:Binds K fd ps [.none]
end L2
namespace L2
open PySem PySem.Spec PyProof.Rows PySem.W
end L2
namespace HT
open PySem PySem.Spec PyProof.Rows PySem.SeqAt
open PySem.AutoSeq1 (wpAny_loadPart')
open PySem.MeetsSeq PySem.MeetsSeq2 PySem.MeetsSeq3
section
variable {A:Around} {s:Shared}
end
end HT
namespace L2
open PySem PySem.Spec PyProof.Rows
inductive Ov (H:Hp):V->Prop
  | d {v:V} {d:Dt} (r:Rp H FT 1 v d):Ov H v
  | dic {a:Addr} (h:H a=some (.dK [])):Ov H (.ref a)
end L2
namespace L2
open PySem PySem.Spec PyProof.Rows PySem.W
section
variable {X:Cx} {pins:List (Addr × Obj)} {σ:St} {H:Hp} {s:Shared}
end
section
variable {P:Program} {w:World} {K:PySem.W.Frag} {mg:Str->Option Value} {base:Heap} {N:List Str} {qual x:Str} {scope:Scope} {f:Addr} {cd:Value} {cl:List (Str × Addr)} {A:Around} {outer:List Env} {s:Shared} {H:Hp} {E:XK}
end
theorem Mp {X:Cx} {o:Value->Value->Sem Value} {r1 r2:R2} (h1:OpR X o r1) (h2:OpR X o r2):OpR X o (λ x y H Q=>r1 x y H Q\/r2 x y H Q):=λ pins s σ H x y v u Q I rx ry h=>h.elim (h1 pins s σ H x y v u Q I rx ry) (h2 pins s σ H x y v u Q I rx ry)
end L2
namespace TS
open PySem PyProof.Rows
def FG:Bool->Keyed->Array Keyed->Nat->Nat->Nat->StateT SortSt Sem (Option Nat):=sortPriv% PySem.Builtin.gallop
def Rz:Array Keyed->Array Keyed->StateT SortSt Sem (Array Keyed):=sortPriv% PySem.Builtin.mergeLo
def RZ:Array Keyed->Array Keyed->StateT SortSt Sem (Array Keyed):=sortPriv% PySem.Builtin.mergeHi
def Jx:Nat->StateT SortSt Sem Unit:=sortPriv% PySem.Builtin.setMinGallop
abbrev dK:Keyed:=(Value.none,Value.none)
def Dk (left:Bool) (key:Keyed) (arr:Array Keyed) (base i:Nat):StateT SortSt Sem (Option Bool):=do
  let x <-elem' arr (base+i)
  if left then lt' x key else return (<-lt' key x).map (!·)
theorem SJ (left:Bool) (key:Keyed) (arr:Array Keyed) (base n hint:Nat):FG left key arr base n hint=(do
  let mut lastofs:=0
  let mut ofs:=1
  let mut lo:=0
  let mut hi:=0
  let some right <-Dk left key arr base hint | return none
  if right then
    let maxofs:=n - hint
    for _ in [0:n] do
      if ofs>=maxofs then break
      let some more <-Dk left key arr base (hint+ofs) | return none
      if !more then break
      lastofs:=ofs
      ofs:=2*ofs+1
    lo:=hint+lastofs+1
    hi:=hint+min ofs maxofs
  else
    let maxofs:=hint+1
    for _ in [0:n] do
      if ofs>=maxofs then break
      let some found <-Dk left key arr base (hint - ofs) | return none
      if found then break
      lastofs:=ofs
      ofs:=2*ofs+1
    lo:=hint+1 - min ofs maxofs
    hi:=hint - lastofs
  for _ in [0:n] do
    if lo>=hi then break
    let m:=lo+(hi - lo) / 2
    let some more <-Dk left key arr base m | return none
    if more then lo:=m+1 else hi:=m
  return some hi):=rfl
def OQ (left:Bool) (key:Keyed) (arr:Array Keyed) (base n l h:Nat):StateT SortSt Sem (Option Nat):=do
  let mut lo:=l
  let mut hi:=h
  for _ in [0:n] do
    if lo>=hi then break
    let m:=lo+(hi - lo) / 2
    let some more <-Dk left key arr base m | return none
    if more then lo:=m+1 else hi:=m
  return some hi
structure Cmp (prog:Program) (w:World) (A:Around) (E:Value->Shared->Prop) (s:Shared) (κ:SortKind) (D:Keyed->Prop) (ρ:Keyed->Nat):Prop where
  lt:∀ (st:SortSt) (x y:Keyed) (Q:Option Bool->SortSt->Prop),kindOf st=κ->D x->D y->Q (some (decide (ρ x<ρ y))) st->wpS (model prog w) A E s (lt' x y) Q st
  inj:∀ x y,D x->D y->ρ x=ρ y->x=y
section
variable {prog:Program} {w:World} {A:Around} {E:Value->Shared->Prop} {s:Shared} {κ:SortKind} {D:Keyed->Prop} {ρ:Keyed->Nat}
theorem AB {xs:Array Keyed} {i:Nat} {st:SortSt} {Q:Keyed->SortSt->Prop} (hi:i<xs.size) (h:Q (xs.getD i dK) st):wpS (model prog w) A E s (elem' xs i) Q st:=by
  rw [elem'_eq];have e:xs[i]?=some (xs.getD i dK):=by simp [Array.getD,hi]
  rw [e];exact wpS_pure h
theorem MU (C:Cmp prog w A E s κ D ρ) {left:Bool} {key:Keyed} {arr:Array Keyed} {base i:Nat} {st:SortSt} {Q:Option Bool->SortSt->Prop} (hk:kindOf st=κ) (hi:base+i<arr.size) (hx:D (arr.getD (base+i) dK)) (hy:D key) (hne:ρ (arr.getD (base+i) dK)≠ρ key)
    (h:Q (some (decide (ρ (arr.getD (base+i) dK)<ρ key))) st):wpS (model prog w) A E s (Dk left key arr base i) Q st:=by
  unfold Dk;refine wpS_bind (AB hi ?_);cases left with
  | true=>exact C.lt _ _ _ _ hk hx hy h
  | false=>
    refine wpS_bind (C.lt _ _ _ _ hk hy hx (wpS_pure ?_));have e:(some (decide (ρ key<ρ (arr.getD (base+i) dK)))).map (!·)=some (decide (ρ (arr.getD (base+i) dK)<ρ key)):=by
      show some (!decide _)=some _;congr 1;rw [Ae2];simp only [Bool.not_eq_true',decide_eq_false_iff_not,decide_eq_true_eq];omega
    rw [e];exact h
theorem E5 (C:Cmp prog w A E s κ D ρ) {left:Bool} {key:Keyed} {arr:Array Keyed} {base n hint:Nat} {st:SortSt} {Q:Option Nat->SortSt->Prop} (hk:kindOf st=κ) (hb:base+n<=arr.size) (hh:hint<n) (hD:∀ i,i<n->D (arr.getD (base+i) dK)) (hy:D key) (hne:∀ i,i<n->ρ (arr.getD (base+i) dK)≠ρ key)
    (hs:∀ i j,i<j->j<n->ρ (arr.getD (base+i) dK)<ρ (arr.getD (base+j) dK))
    (h:∀ k,k<=n->(∀ i,i<k->ρ (arr.getD (base+i) dK)<ρ key)->(∀ i,k<=i->i<n->ρ key<ρ (arr.getD (base+i) dK))->Q (some k) st):wpS (model prog w) A E s (FG left key arr base n hint) Q st:=by
  rw [SJ];have bw:∀ {i:Nat} {Q':Option Bool->SortSt->Prop},i<n->Q' (some (decide (ρ (arr.getD (base+i) dK)<ρ key))) st->wpS (model prog w) A E s (Dk left key arr base i) Q' st:=λ hi q=>MU C hk (by omega) (hD _ hi) hy (hne _ hi) q;dsimp only;refine wpS_bind (bw hh ?_);dsimp only;have fin:∀ l h',l<=h'->h'<=n->(∀ i,i<l->ρ (arr.getD (base+i) dK)<ρ key)->(∀ i,h'<=i->i<n->ρ key<ρ (arr.getD (base+i) dK))->wpS (model prog w) A E s (OQ left key arr base n l h') Q st:=λ l h' h1 h2 h3 h4=>by
    unfold OQ;dsimp only;refine wpS_bind (wpS_forRange (λ x c st'=>st'=st/\∃ a b,c=(none,a,b)/\a<=b/\b<=n/\b - a+x<=n/\(∀ i,i<a->ρ (arr.getD (base+i) dK)<ρ key)/\(∀ i,b<=i->i<n->ρ key<ρ (arr.getD (base+i) dK))) ?_ ?_ ⟨rfl,l,h',rfl,h1,h2,by omega,h3,h4⟩)
    · rintro x _ st' _ hx ⟨rfl,a,b,rfl,a1,a2,a3,a4,a5⟩;dsimp only;by_cases hc:a>=b
      · rw [if_pos hc];refine wpS_pure ?_;dsimp only;exact wpS_pure (h b a2 (λ i hi=>a4 i (by omega)) a5)
      · rw [if_neg hc];refine wpS_bind (bw (by omega) ?_);dsimp only;by_cases hd:ρ (arr.getD (base+(a+(b - a) / 2)) dK)<ρ key
        · rw [if_pos (decide_eq_true hd)];refine wpS_pure ⟨rfl,_,_,rfl,by omega,a2,by omega,λ i hi=> ?_,a5⟩;rcases Ad4 i (a+(b - a) / 2) with q | q
          · exact Ae6 (hs i _ q (by omega)) hd
          · rw [show i=a+(b - a) / 2 by omega];exact hd
        · rw [if_neg (λ z=>hd (of_decide_eq_true z))];have hd':ρ key<ρ (arr.getD (base+(a+(b - a) / 2)) dK):=by have:=hne (a+(b - a) / 2) (by omega);omega
          refine wpS_pure ⟨rfl,_,_,rfl,by omega,by omega,by omega,a4,λ i hi hn=> ?_⟩;rcases Ad4 (a+(b - a) / 2) i with q | q
          · exact Ae6 hd' (hs _ i q hn)
          · rw [show i=a+(b - a) / 2 by omega];exact hd'
    · rintro _ st' ⟨rfl,a,b,rfl,a1,a2,a3,a4,a5⟩;dsimp only;exact wpS_pure (h b a2 (λ i hi=>a4 i (by omega)) a5)
  have lows:∀ {j i:Nat},i<=j->j<n->ρ (arr.getD (base+j) dK)<ρ key->ρ (arr.getD (base+i) dK)<ρ key:=λ {j i} hij hj hl=>by
    rcases Ad4 i j with q | q
    · exact Ae6 (hs i j q hj) hl
    · rw [show i=j by omega];exact hl
  have highs:∀ {j i:Nat},j<=i->i<n->ρ key<ρ (arr.getD (base+j) dK)->ρ key<ρ (arr.getD (base+i) dK):=λ {j i} hij hi hl=>by
    rcases Ad4 j i with q | q
    · exact Ae6 hl (hs j i q hi)
    · rw [show i=j by omega];exact hl
  have not:∀ {i:Nat},i<n->¬ ρ (arr.getD (base+i) dK)<ρ key->ρ key<ρ (arr.getD (base+i) dK):=λ hi q=>by have:=hne _ hi;omega
  by_cases h0:ρ (arr.getD (base+hint) dK)<ρ key
  · rw [if_pos (decide_eq_true h0)];have post:∀ a b,a<b->hint+a<n->ρ (arr.getD (base+(hint+a)) dK)<ρ key->(n - hint<=b\/ρ key<ρ (arr.getD (base+(hint+b)) dK))->wpS (model prog w) A E s (OQ left key arr base n (hint+a+1) (hint+min b (n - hint))) Q st:=λ a b h1 h2 h3 h4=>by
      refine fin _ _ (by omega) (by omega) (λ i hi=>lows (show i<=hint+a by omega) h2 h3) λ i hi hn=> ?_;rcases h4 with q | q
      · exfalso;omega
      · exact highs (show hint+b<=i by omega) hn q
    refine wpS_bind (wpS_forRange (λ x c st'=>st'=st/\∃ a b,c=(none,a,b)/\a<b/\x+1<=b/\hint+a<n/\ρ (arr.getD (base+(hint+a)) dK)<ρ key) ?_ ?_ ⟨rfl,0,1,rfl,by omega,by omega,hh,h0⟩)
    · rintro x _ st' _ hx ⟨rfl,a,b,rfl,a1,a2,a3,a4⟩;dsimp only;by_cases hc:b>=n - hint
      · rw [if_pos hc];exact wpS_pure (post a b a1 a3 a4 (.inl hc))
      · rw [if_neg hc];refine wpS_bind (bw (by omega) ?_);dsimp only;by_cases hd:ρ (arr.getD (base+(hint+b)) dK)<ρ key
        · rw [decide_eq_true hd];exact wpS_pure ⟨rfl,_,_,rfl,by omega,by omega,by omega,hd⟩
        · rw [decide_eq_false hd];exact wpS_pure (post a b a1 a3 a4 (.inr (not (by omega) hd)))
    · rintro _ st' ⟨rfl,a,b,rfl,a1,a2,a3,a4⟩;exact post a b a1 a3 a4 (.inl (by omega))
  · rw [if_neg (λ z=>h0 (of_decide_eq_true z))];have post:∀ a b,a<b->a<=hint->ρ key<ρ (arr.getD (base+(hint - a)) dK)->(hint+1<=b\/ρ (arr.getD (base+(hint - b)) dK)<ρ key)->wpS (model prog w) A E s (OQ left key arr base n (hint+1 - min b (hint+1)) (hint - a)) Q st:=λ a b h1 h2 h3 h4=>by
      refine fin _ _ (by omega) (by omega) (λ i hi=> ?_) λ i hi hn=>highs (show hint - a<=i by omega) hn h3;rcases h4 with q | q
      · exfalso;omega
      · exact lows (show i<=hint - b by omega) (by omega) q
    refine wpS_bind (wpS_forRange (λ x c st'=>st'=st/\∃ a b,c=(none,a,b)/\a<b/\x+1<=b/\a<=hint/\ρ key<ρ (arr.getD (base+(hint - a)) dK)) ?_ ?_ ⟨rfl,0,1,rfl,by omega,by omega,by omega,not hh h0⟩)
    · rintro x _ st' _ hx ⟨rfl,a,b,rfl,a1,a2,a3,a4⟩;dsimp only;by_cases hc:b>=hint+1
      · rw [if_pos hc];exact wpS_pure (post a b a1 a3 a4 (.inl hc))
      · rw [if_neg hc];refine wpS_bind (bw (by omega) ?_);dsimp only;by_cases hd:ρ (arr.getD (base+(hint - b)) dK)<ρ key
        · rw [decide_eq_true hd];exact wpS_pure (post a b a1 a3 a4 (.inr hd))
        · rw [decide_eq_false hd];exact wpS_pure ⟨rfl,_,_,rfl,by omega,by omega,by omega,not (by omega) hd⟩
    · rintro _ st' ⟨rfl,a,b,rfl,a1,a2,a3,a4⟩;exact post a b a1 a3 a4 (.inl (by omega))
end
def Sd (ρ:Keyed->Nat) (l:List Keyed):Prop:=l.Pairwise λ x y=>ρ x<ρ y
structure MI (ρ:Keyed->Nat) (a b o:List Keyed) (i j:Nat):Prop where
  hi:i<=a.length
  hj:j<=b.length
  pm:o.Perm (a.take i++b.take j)
  so:Sd ρ o
  la:∀ x∈o,∀ y∈a.drop i,ρ x<ρ y
  lb:∀ x∈o,∀ y∈b.drop j,ρ x<ρ y
section
variable {ρ:Keyed->Nat} {a b o:List Keyed} {i j k:Nat}
theorem OJ {l:List Keyed} {i k:Nat} {y:Keyed} (h:y∈l.drop (i+k)):y∈l.drop i:=by
  rw [<-List.drop_drop] at h;exact List.mem_of_mem_drop h
theorem Sd.cross (s:Sd ρ b) {x y:Keyed} (hx:x∈(b.drop j).take k) (hy:y∈b.drop (j+k)):ρ x<ρ y:=by
  have s1:Sd ρ (b.drop j):=List.Pairwise.sublist (List.drop_sublist _ _) s;rw [<-Af5 k (b.drop j)] at s1;rw [<-List.drop_drop] at hy;exact (Ah6.mp s1).2.2 x hx y hy
theorem MI.takeB (h:MI ρ a b o i j) (sb:Sd ρ b) (hk:j+k<=b.length) (lo:∀ x∈(b.drop j).take k,∀ y∈a.drop i,ρ x<ρ y):MI ρ a b (o++(b.drop j).take k) i (j+k):=by
  refine ⟨h.hi,hk,?_,?_,λ x hx y hy=> ?_,λ x hx y hy=> ?_⟩
  · rw [List.take_add, <-Af1];exact h.pm.append_right _
  · refine Ah6.mpr ⟨h.so,List.Pairwise.sublist ((List.take_sublist _ _).trans (List.drop_sublist _ _)) sb,λ x hx y hy=>h.lb x hx y (Aj5 hy)⟩
  · rcases Ac4.mp hx with q | q
    · exact h.la x q y hy
    · exact lo x q y hy
  · rcases Ac4.mp hx with q | q
    · exact h.lb x q y (OJ hy)
    · exact sb.cross q hy
theorem MI.swap (h:MI ρ a b o i j):MI ρ b a o j i:=⟨h.hj,h.hi,h.pm.trans List.perm_append_comm,h.so,h.lb,h.la⟩
theorem MI.takeA (h:MI ρ a b o i j) (sa:Sd ρ a) (hk:i+k<=a.length) (lo:∀ x∈(a.drop i).take k,∀ y∈b.drop j,ρ x<ρ y):MI ρ a b (o++(a.drop i).take k) (i+k) j:=(h.swap.takeB sa hk lo).swap
def Fin (ρ:Keyed->Nat) (a b r:List Keyed):Prop:=r.Perm (a++b)/\Sd ρ r
theorem MI.fin (h:MI ρ a b o i j) (sa:Sd ρ a) (hj:j=b.length):Fin ρ a b (o++a.drop i):=by
  subst hj;have q:=h.takeA (k:=a.length - i) sa (by have:=h.hi;omega) λ x _ y hy=>by rw [List.drop_length] at hy;cases hy
  rw [Ah7 (by rw [Ai5];exact Aa6 _)] at q;have pm:=q.pm;rw [show i+(a.length - i)=a.length by have:=h.hi;omega,Af2,Af2] at pm;exact ⟨pm,q.so⟩
theorem FQ (s:Sd ρ a) (hi:i<a.length) {x y:Keyed} (hx:ρ x<ρ (a.getD i dK)) (hy:y∈a.drop i):ρ x<ρ y:=by
  rw [Aa0,Aa1 hi] at hx;have s1:Sd ρ (a.drop i):=List.Pairwise.sublist (List.drop_sublist _ _) s;rw [List.drop_eq_getElem_cons hi] at hy s1;rcases Ac2.mp hy with rfl | q
  · exact hx
  · exact Ae6 hx ((List.pairwise_cons.mp s1).1 y q)
theorem By {l:List Keyed} {j k:Nat} {x:Keyed} (hk:j+k<=l.length) (h:x∈(l.drop j).take k):∃ t,t<k/\x=l.getD (j+t) dK:=by
  obtain ⟨t,ht,rfl⟩:=List.mem_iff_getElem.mp h;rw [Ag8,Ai5] at ht;refine ⟨t,by omega,?_⟩;rw [List.getElem_take,List.getElem_drop,Aa0,Aa1 (by omega)];rfl
theorem Sd.lt (s:Sd ρ a) {i j:Nat} (h:i<j) (hj:j<a.length):ρ (a.getD i dK)<ρ (a.getD j dK):=by
  rw [Aa0,Aa0,Aa1 hj,Aa1 (by omega)];exact List.pairwise_iff_getElem.mp s i j (by omega) hj h
end
theorem Rk (a b:Array Keyed):Rz a b=(do
  rule "list.sort.merge-lo"
  let tot:=a.size+b.size;let fa (o:Array Keyed) (i j:Nat):=o++a.extract i a.size++b.extract j b.size;let fb (o:Array Keyed) (i j:Nat):=o++b.extract j b.size++a.extract i a.size
  let mut o:Array Keyed:= #[<-elem' b 0]
  let mut i:=0
  let mut j:=1
  if j == b.size then return fa o i j
  if i+1 == a.size then return fb o i j
  let mut g:=gallopOf (<-get)
  for _ in [0:tot] do
    let mut p:=0
    let mut q:=0
    for _ in [0:tot] do
      let some c <-lt' (<-elem' b j) (<-elem' a i) | return fa o i j
      if c then
        o:=o.push (<-elem' b j);j:=j+1;q:=q+1;p:=0
        if j == b.size then return fa o i j
        if q>=g then break
      else
        o:=o.push (<-elem' a i);i:=i+1;p:=p+1;q:=0
        if i+1 == a.size then return fb o i j
        if p>=g then break
    rule "list.sort.gallop"
    g:=g+1
    for _ in [0:tot] do
      if g>1 then g:=g - 1
      Jx g
      let some k <-FG false (<-elem' b j) a i (a.size - i) 0 | return fa o i j
      p:=k
      if k>0 then
        o:=o++a.extract i (i+k);i:=i+k
        if i+1 == a.size then return fb o i j
        if i == a.size then return fa o i j
      o:=o.push (<-elem' b j);j:=j+1
      if j == b.size then return fa o i j
      let some k <-FG true (<-elem' a i) b j (b.size - j) 0 | return fa o i j
      q:=k
      if k>0 then
        o:=o++b.extract j (j+k);j:=j+k
        if j == b.size then return fa o i j
      o:=o.push (<-elem' a i);i:=i+1
      if i+1 == a.size then return fb o i j
      if p<7&&q<7 then break
    g:=g+1
    Jx g
  unsupported "internal:list.sort.merge-bound"):=rfl
abbrev T1:Type:=Option (Array Keyed) × Array Keyed × Nat × Nat × Nat × Nat
abbrev T2:Type:=Option (Array Keyed) × Array Keyed × Nat × Nat × Nat × Nat × Nat
def l1B (a b:Array Keyed) (g:Nat) (c:T1):StateT SortSt Sem (ForInStep T1):=do
  let y <-elem' b c.2.2.2.1
  if (c.2.2.2.1+1 == b.size)=true then pure (.done (some (c.2.1.push y++a.extract c.2.2.1 a.size++b.extract (c.2.2.2.1+1) b.size),c.2.1.push y,c.2.2.1,c.2.2.2.1+1,0,c.2.2.2.2.2+1))
  else if c.2.2.2.2.2+1>=g then pure (.done (none,c.2.1.push y,c.2.2.1,c.2.2.2.1+1,0,c.2.2.2.2.2+1))
  else pure (.yield (none,c.2.1.push y,c.2.2.1,c.2.2.2.1+1,0,c.2.2.2.2.2+1))
def l1A (a b:Array Keyed) (g:Nat) (c:T1):StateT SortSt Sem (ForInStep T1):=do
  let x <-elem' a c.2.2.1
  if (c.2.2.1+1+1 == a.size)=true then pure (.done (some (c.2.1.push x++b.extract c.2.2.2.1 b.size++a.extract (c.2.2.1+1) a.size),c.2.1.push x,c.2.2.1+1,c.2.2.2.1,c.2.2.2.2.1+1,0))
  else if c.2.2.2.2.1+1>=g then pure (.done (none,c.2.1.push x,c.2.2.1+1,c.2.2.2.1,c.2.2.2.2.1+1,0))
  else pure (.yield (none,c.2.1.push x,c.2.2.1+1,c.2.2.2.1,c.2.2.2.2.1+1,0))
def l1 (a b:Array Keyed) (g:Nat) (c:T1):StateT SortSt Sem (ForInStep T1):=do
  let y <-elem' b c.2.2.2.1
  let x <-elem' a c.2.2.1
  let some e <-lt' y x | pure (.done (some (c.2.1++a.extract c.2.2.1 a.size++b.extract c.2.2.2.1 b.size),c.2.1,c.2.2.1,c.2.2.2.1,c.2.2.2.2.1,c.2.2.2.2.2))
  if e=true then l1B a b g c else l1A a b g c
def g4 (a b o:Array Keyed) (i j g k m:Nat):StateT SortSt Sem (ForInStep T2):=do
  let x <-elem' a i
  if (i+1+1 == a.size)=true then pure (.done (some (o.push x++b.extract j b.size++a.extract (i+1) a.size),o.push x,i+1,j,g,k,m))
  else if (decide (k<7)&&decide (m<7))=true then pure (.done (none,o.push x,i+1,j,g,k,m))
  else pure (.yield (none,o.push x,i+1,j,g,k,m))
def g3 (a b o:Array Keyed) (i j g k q:Nat):StateT SortSt Sem (ForInStep T2):=do
  let y <-elem' b j
  if (j+1 == b.size)=true then pure (.done (some (o.push y++a.extract i a.size++b.extract (j+1) b.size),o.push y,i,j+1,g,k,q))
  else do
    let x <-elem' a i
    let some m <-FG true x b (j+1) (b.size - (j+1)) 0 | pure (.done (some (o.push y++a.extract i a.size++b.extract (j+1) b.size),o.push y,i,j+1,g,k,q))
    if m>0 then (if (j+1+m == b.size)=true then pure (.done (some (o.push y++b.extract (j+1) (j+1+m)++a.extract i a.size++b.extract (j+1+m) b.size),o.push y++b.extract (j+1) (j+1+m),i,j+1+m,g,k,m)) else g4 a b (o.push y++b.extract (j+1) (j+1+m)) i (j+1+m) g k m) else g4 a b (o.push y) i (j+1) g k m
def g2 (a b o:Array Keyed) (i j g p q:Nat):StateT SortSt Sem (ForInStep T2):=do
  Jx g
  let y <-elem' b j
  let some k <-FG false y a i (a.size - i) 0 | pure (.done (some (o++a.extract i a.size++b.extract j b.size),o,i,j,g,p,q))
  if k>0 then (if (i+k+1 == a.size)=true then pure (.done (some (o++a.extract i (i+k)++b.extract j b.size++a.extract (i+k) a.size),o++a.extract i (i+k),i+k,j,g,k,q))
      else if (i+k == a.size)=true then pure (.done (some (o++a.extract i (i+k)++a.extract (i+k) a.size++b.extract j b.size),o++a.extract i (i+k),i+k,j,g,k,q))
      else g3 a b (o++a.extract i (i+k)) (i+k) j g k q) else g3 a b o i j g k q
theorem Ti (g:Nat):Jx g=modify λ s=>SortSt.mk' (kindOf s) (arrOf s) (pendingOf s) g (failedOf s):=rfl
structure SS (st st':SortSt):Prop where
  k:kindOf st'=kindOf st
  a:arrOf st'=arrOf st
  p:pendingOf st'=pendingOf st
  f:failedOf st'=failedOf st
theorem SS.refl {st:SortSt}:SS st st:=⟨rfl,rfl,rfl,rfl⟩
theorem SS.trans {st st' st'':SortSt} (h:SS st st') (h':SS st' st''):SS st st'':=⟨h'.k.trans h.k,h'.a.trans h.a,h'.p.trans h.p,h'.f.trans h.f⟩
theorem Au (xs:Array Keyed) (i:Nat):xs.getD i dK=xs.toList.getD i dK:=by
  by_cases h:i<xs.size
  · simp [Array.getD,h]
  · simp [Array.getD,h]
theorem EE {b:Array Keyed} {j:Nat} (h:j<b.size):[b.getD j dK]=(b.toList.drop j).take 1:=by
  have h':j<b.toList.length:=by simpa using h
  rw [Au,List.drop_eq_getElem_cons h',Aa0,Aa1 h'];rfl
theorem HJ {b o:Array Keyed} {j:Nat} (h:j<b.size):(o.push (b.getD j dK)).toList=o.toList++(b.toList.drop j).take 1:=by rw [Array.toList_push,EE h]
theorem Jf {b o:Array Keyed} {j k:Nat}:(o++b.extract j (j+k)).toList=o.toList++(b.toList.drop j).take k:=by
  rw [Array.toList_append,Af8];show _++(b.toList.drop j).take (j+k - j)=_;rw [Nat.add_sub_cancel_left]
theorem GP {b o:Array Keyed} {j:Nat}:(o++b.extract j b.size).toList=o.toList++b.toList.drop j:=by
  rw [Array.toList_append,Af8];show _++(b.toList.drop j).take (b.size - j)=_;rw [Ah7 (by rw [Ai5];simp)]
section
variable {prog:Program} {w:World} {A:Around} {E:Value->Shared->Prop} {s:Shared} {κ:SortKind} {D:Keyed->Prop} {ρ:Keyed->Nat}
theorem IC {g:Nat} {st:SortSt} {Q:Unit->SortSt->Prop} (h:∀ st',SS st st'->Q () st'):wpS (model prog w) A E s (Jx g) Q st:=by
  rw [Ti];exact wpS_modify (h _ ⟨rfl,rfl,rfl,rfl⟩)
structure Two (D:Keyed->Prop) (ρ:Keyed->Nat) (a b:Array Keyed):Prop where
  da:∀ i,i<a.size->D (a.getD i dK)
  db:∀ i,i<b.size->D (b.getD i dK)
  sa:Sd ρ a.toList
  sb:Sd ρ b.toList
  ne:∀ i j,i<a.size->j<b.size->ρ (a.getD i dK)≠ρ (b.getD j dK)
  pa:0<a.size
  pb:0<b.size
  lo:ρ (b.getD 0 dK)<ρ (a.getD 0 dK)
  hi:ρ (b.getD (b.size - 1) dK)<ρ (a.getD (a.size - 1) dK)
abbrev MA (ρ:Keyed->Nat) (a b o:Array Keyed) (i j:Nat):Prop:=MI ρ a.toList b.toList o.toList i j
section
variable {a b o:Array Keyed} {i j k:Nat}
theorem CS (s:Sd ρ a.toList) {i j:Nat} (h:i<j) (hj:j<a.size):ρ (a.getD i dK)<ρ (a.getD j dK):=by
  rw [Au,Au];exact s.lt h (by simpa using hj)
theorem MA.putB (T:Two D ρ a b) (h:MA ρ a b o i j) (hi:i<a.size) (hj:j<b.size) (lt:ρ (b.getD j dK)<ρ (a.getD i dK)):MA ρ a b (o.push (b.getD j dK)) i (j+1):=by
  unfold MA;rw [HJ hj];refine MI.takeB h T.sb (by simpa using (Nat.succ_le_of_lt hj)) λ x hx y hy=> ?_;rw [<-EE hj] at hx;rw [Ab7.mp hx];exact FQ T.sa (by simpa using hi) (by rw [<-Au];exact lt) hy
theorem MA.putA (T:Two D ρ a b) (h:MA ρ a b o i j) (hi:i<a.size) (hj:j<b.size) (lt:ρ (a.getD i dK)<ρ (b.getD j dK)):MA ρ a b (o.push (a.getD i dK)) (i+1) j:=by
  unfold MA;rw [HJ hi];refine MI.takeA h T.sa (by simpa using (Nat.succ_le_of_lt hi)) λ x hx y hy=> ?_;rw [<-EE hi] at hx;rw [Ab7.mp hx];exact FQ T.sb (by simpa using hj) (by rw [<-Au];exact lt) hy
theorem MA.moreB (T:Two D ρ a b) (h:MA ρ a b o i j) (hi:i<a.size) (hk:j+k<=b.size) (lt:∀ t,t<k->ρ (b.getD (j+t) dK)<ρ (a.getD i dK)):MA ρ a b (o++b.extract j (j+k)) i (j+k):=by
  unfold MA;rw [Jf];refine MI.takeB h T.sb (by simpa using hk) λ x hx y hy=> ?_;obtain ⟨t,ht,rfl⟩:=By (by simpa using hk) hx;exact FQ T.sa (by simpa using hi) (by rw [<-Au, <-Au];exact lt t ht) hy
theorem MA.moreA (T:Two D ρ a b) (h:MA ρ a b o i j) (hj:j<b.size) (hk:i+k<=a.size) (lt:∀ t,t<k->ρ (a.getD (i+t) dK)<ρ (b.getD j dK)):MA ρ a b (o++a.extract i (i+k)) (i+k) j:=by
  unfold MA;rw [Jf];refine MI.takeA h T.sa (by simpa using hk) λ x hx y hy=> ?_;obtain ⟨t,ht,rfl⟩:=By (by simpa using hk) hx;exact FQ T.sb (by simpa using hj) (by rw [<-Au, <-Au];exact lt t ht) hy
abbrev FA (ρ:Keyed->Nat) (a b r:Array Keyed):Prop:=Fin ρ a.toList b.toList r.toList
theorem MA.finA (T:Two D ρ a b) (h:MA ρ a b o i j) (hj:j=b.size):FA ρ a b (o++a.extract i a.size++b.extract j b.size):=by
  subst hj;unfold FA;rw [GP,GP,List.drop_of_length_le (l:=b.toList) (by simp),Ah8];exact MI.fin h T.sa (by simp)
theorem MA.finB (T:Two D ρ a b) (h:MA ρ a b o i j) (hi:i+1=a.size):FA ρ a b (o++b.extract j b.size++a.extract i a.size):=by
  have hj:=h.hj;have hj:j<=b.size:=by simpa using hj
  have h2:MA ρ a b (o++b.extract j (j+(b.size - j))) i (j+(b.size - j)):=h.moreB T (by omega) (by omega) λ t ht=>by
    have e:a.size - 1=i:=by omega
    have q:=T.hi;rw [e] at q;rcases Ad4 (j+t) (b.size - 1) with z | z
    · exact Ae6 (CS T.sb z (by omega)) q
    · rw [show j+t=b.size - 1 by omega];exact q
  rw [show j+(b.size - j)=b.size by omega] at h2;unfold FA;rw [GP];exact MI.fin h2 T.sa (by simp)
theorem MA.first (T:Two D ρ a b):MA ρ a b #[b.getD 0 dK] 0 1:=by
  have h0:MA ρ a b #[] 0 0:=⟨Ad3 _,Ad3 _,by simp,List.Pairwise.nil,λ x hx=>by simp at hx,λ x hx=>by simp at hx⟩;exact h0.putB T T.pa T.pb T.lo
end
def Mid (ρ:Keyed->Nat) (a b:Array Keyed) (n:Nat) (o:Array Keyed) (i j:Nat):Prop:=MA ρ a b o i j/\i+1<a.size/\j<b.size/\n<=i+j
section
variable {a b:Array Keyed} {st:SortSt}
theorem QK (T:Two D ρ a b) {o:Array Keyed} {i j g k m n:Nat} {Q:ForInStep T2->SortSt->Prop} (h:MA ρ a b o i j) (hi:i+1<a.size) (hj:j<b.size) (lt:ρ (a.getD i dK)<ρ (b.getD j dK)) (hn:n<=i+j)
    (q1:∀ r x,FA ρ a b r->Q (.done (some r,x)) st) (q2:∀ o i j g p q,Mid ρ a b n o i j->Q (.done (none,o,i,j,g,p,q)) st/\Q (.yield (none,o,i,j,g,p,q)) st):wpS (model prog w) A E s (g4 a b o i j g k m) Q st:=by
  unfold g4;refine wpS_bind (AB (by omega) ?_);have h2:=h.putA T (by omega) hj lt;by_cases c:i+1+1=a.size
  · rw [if_pos (by rw [beq_iff_eq];exact c)];exact wpS_pure (q1 _ _ (h2.finB T c))
  · rw [if_neg (by rw [beq_iff_eq];exact c)];have M:Mid ρ a b n (o.push (a.getD i dK)) (i+1) j:=⟨h2,by omega,hj,by omega⟩;split
    · exact wpS_pure (q2 _ _ _ _ _ _ M).1
    · exact wpS_pure (q2 _ _ _ _ _ _ M).2
theorem Q4 (C:Cmp prog w A E s κ D ρ) (T:Two D ρ a b) (hk:kindOf st=κ) {o:Array Keyed} {i j g k q n:Nat} {Q:ForInStep T2->SortSt->Prop} (h:MA ρ a b o i j) (hi:i+1<a.size) (hj:j<b.size) (lt:ρ (b.getD j dK)<ρ (a.getD i dK)) (hn:n<=i+j)
    (q1:∀ r x,FA ρ a b r->Q (.done (some r,x)) st) (q2:∀ o i j g p q,Mid ρ a b n o i j->Q (.done (none,o,i,j,g,p,q)) st/\Q (.yield (none,o,i,j,g,p,q)) st):wpS (model prog w) A E s (g3 a b o i j g k q) Q st:=by
  unfold g3;refine wpS_bind (AB hj ?_);have h2:=h.putB T (by omega) hj lt;by_cases c:j+1=b.size
  · rw [if_pos (by rw [beq_iff_eq];exact c)];exact wpS_pure (q1 _ _ (h2.finA T c))
  · rw [if_neg (by rw [beq_iff_eq];exact c)];refine wpS_bind (AB (by omega) (wpS_bind (E5 C hk (by omega) (by omega) (λ t ht=>T.db _ (by omega)) (T.da _ (by omega)) (λ t ht z=>T.ne i (j+1+t) (by omega) (by omega) z.symm) (λ t u h1 h2=>CS T.sb (by omega) (by omega)) λ m hm m1 m2=> ?_)));dsimp only;by_cases cm:m>0
    · rw [if_pos cm];have h3:=h2.moreB T (k:=m) (by omega) (by omega) m1;by_cases c2:j+1+m=b.size
      · rw [if_pos (by rw [beq_iff_eq];exact c2)];exact wpS_pure (q1 _ _ (h3.finA T c2))
      · rw [if_neg (by rw [beq_iff_eq];exact c2)];exact QK T h3 hi (by omega) (m2 m (Aa6 _) (by omega)) (by omega) q1 q2
    · rw [if_neg cm];have e:m=0:=by omega
      subst e;exact QK T h2 hi (by omega) (m2 0 (Aa6 _) (by omega)) (by omega) q1 q2
theorem Qu (C:Cmp prog w A E s κ D ρ) (T:Two D ρ a b) (hk:kindOf st=κ) {o:Array Keyed} {i j g p q n:Nat} {Q:ForInStep T2->SortSt->Prop} (h:MA ρ a b o i j) (hi:i+1<a.size) (hj:j<b.size) (hn:n<=i+j)
    (q1:∀ r x st',SS st st'->FA ρ a b r->Q (.done (some r,x)) st') (q2:∀ o i j g p q st',SS st st'->Mid ρ a b n o i j->Q (.done (none,o,i,j,g,p,q)) st'/\Q (.yield (none,o,i,j,g,p,q)) st'):wpS (model prog w) A E s (g2 a b o i j g p q) Q st:=by
  unfold g2;refine wpS_bind (IC λ st1 s1=>wpS_bind (AB hj (wpS_bind (E5 C (s1.k.trans hk) (by omega) (by omega) (λ t ht=>T.da _ (by omega)) (T.db _ hj) (λ t ht=>T.ne (i+t) j (by omega) hj) (λ t u h1 h2=>CS T.sa (by omega) (by omega)) λ k hk' k1 k2=> ?_))));have kl:i+k<a.size:=by
    rcases Ad4 (i+k) a.size with z | z
    · exact z
    · have q:=k1 (a.size - 1 - i) (by omega);rw [show i+(a.size - 1 - i)=a.size - 1 by omega] at q;have q':=T.hi;rcases Ad4 j (b.size - 1) with y | y
      · have:=CS T.sb y (by omega);omega
      · rw [show j=b.size - 1 by omega] at q;omega
  dsimp only;by_cases ck:k>0
  · rw [if_pos ck];have h2:=h.moreA T (k:=k) hj (by omega) k1;by_cases c:i+k+1=a.size
    · rw [if_pos (by rw [beq_iff_eq];exact c)];exact wpS_pure (q1 _ _ _ s1 (h2.finB T c))
    · rw [if_neg (by rw [beq_iff_eq];exact c),if_neg (by rw [beq_iff_eq];omega)];exact Q4 C T (s1.k.trans hk) h2 (by omega) hj (k2 k (Aa6 _) (by omega)) (by omega) (λ r x f=>q1 r x _ s1 f) λ o i j g p q m=>q2 o i j g p q _ s1 m
  · rw [if_neg ck];have e:k=0:=by omega
    subst e;exact Q4 C T (s1.k.trans hk) h (by omega) hj (k2 0 (Aa6 _) (by omega)) (by omega) (λ r x f=>q1 r x _ s1 f) λ o i j g p q m=>q2 o i j g p q _ s1 m
theorem Us (C:Cmp prog w A E s κ D ρ) (T:Two D ρ a b) (hk:kindOf st=κ) {o:Array Keyed} {i j g p q n:Nat} {Q:ForInStep T1->SortSt->Prop} (h:MA ρ a b o i j) (hi:i+1<a.size) (hj:j<b.size) (hn:n<=i+j+1)
    (q1:∀ r x,FA ρ a b r->Q (.done (some r,x)) st) (q2:∀ o i j p q,Mid ρ a b n o i j->Q (.done (none,o,i,j,p,q)) st/\Q (.yield (none,o,i,j,p,q)) st):wpS (model prog w) A E s (l1 a b g (none,o,i,j,p,q)) Q st:=by
  unfold l1;refine wpS_bind (AB hj (wpS_bind (AB (by show i<a.size;omega) (wpS_bind (C.lt _ _ _ _ hk (T.db _ hj) (T.da _ (by show i<a.size;omega)) ?_)))));dsimp only;by_cases lt:ρ (b.getD j dK)<ρ (a.getD i dK)
  · rw [decide_eq_true lt];show wpS _ _ _ _ (l1B a b g (none,o,i,j,p,q)) _ _;unfold l1B;refine wpS_bind (AB hj ?_);have h2:=h.putB T (by omega) hj lt;dsimp only;by_cases c:j+1=b.size
    · rw [if_pos (by rw [beq_iff_eq];exact c)];exact wpS_pure (q1 _ _ (h2.finA T c))
    · rw [if_neg (by rw [beq_iff_eq];exact c)];have M:Mid ρ a b n (o.push (b.getD j dK)) i (j+1):=⟨h2,hi,by omega,by omega⟩;by_cases cq:q+1>=g
      · rw [if_pos cq];exact wpS_pure (q2 _ _ _ _ _ M).1
      · rw [if_neg cq];exact wpS_pure (q2 _ _ _ _ _ M).2
  · rw [decide_eq_false lt];have lt':ρ (a.getD i dK)<ρ (b.getD j dK):=by have:=T.ne i j (by omega) hj;omega
    show wpS _ _ _ _ (l1A a b g (none,o,i,j,p,q)) _ _;unfold l1A;refine wpS_bind (AB (by show i<a.size;omega) ?_);have h2:=h.putA T (by omega) hj lt';dsimp only;by_cases c:i+1+1=a.size
    · rw [if_pos (by rw [beq_iff_eq];exact c)];exact wpS_pure (q1 _ _ (h2.finB T c))
    · rw [if_neg (by rw [beq_iff_eq];exact c)];have M:Mid ρ a b n (o.push (a.getD i dK)) (i+1) j:=⟨h2,by omega,hj,by omega⟩;by_cases cq:p+1>=g
      · rw [if_pos cq];exact wpS_pure (q2 _ _ _ _ _ M).1
      · rw [if_neg cq];exact wpS_pure (q2 _ _ _ _ _ M).2
theorem Sn (C:Cmp prog w A E s κ D ρ) (T:Two D ρ a b) (hk:kindOf st=κ) {Q:Array Keyed->SortSt->Prop} (h:∀ r st',SS st st'->FA ρ a b r->Q r st'):wpS (model prog w) A E s (Rz a b) Q st:=by
  rw [Rk];dsimp only;refine wpS_bind (wpS_lift (wpAny_rule ⟨rfl,?_⟩));refine wpS_bind (AB T.pb ?_);have M0:=MA.first T;have pa:=T.pa;have pb:=T.pb;by_cases c1:1=b.size
  · rw [if_pos (by rw [beq_iff_eq];exact c1)];exact wpS_pure (h _ _ SS.refl (M0.finA T c1))
  rw [if_neg (by rw [beq_iff_eq];exact c1)];by_cases c2:0+1=a.size
  · rw [if_pos (by rw [beq_iff_eq];exact c2)];exact wpS_pure (h _ _ SS.refl (M0.finB T c2))
  rw [if_neg (by rw [beq_iff_eq];exact c2)];refine wpS_bind (wpS_get (wpS_bind (wpS_mono (wpS_forRange (I:=λ x c st'=>SS st st'/\∃ o i j g,c=(none,o,i,j,g)/\Mid ρ a b (x+1) o i j) (Q:=λ c st'=>SS st st'/\∃ r y,c=(some r,y)/\FA ρ a b r) ?_ ?_ ⟨SS.refl,_,_,_,_,rfl,M0,by omega,by omega,by omega⟩) ?_)))
  · rintro x _ st1 _ hx ⟨s1,o,i,j,g,rfl,M1,i1,j1,n1⟩;dsimp only;refine wpS_bind (wpS_mono (wpS_forRange (I:=λ y c st'=>SS st1 st'/\∃ o i j p q,c=(none,o,i,j,p,q)/\Mid ρ a b (x+1+min y 1) o i j) (Q:=λ c st'=>SS st1 st'/\((∃ r z,c=(some r,z)/\FA ρ a b r)\/∃ o i j p q,c=(none,o,i,j,p,q)/\Mid ρ a b (x+2) o i j)) ?_ ?_ ⟨SS.refl,_,_,_,_,_,rfl,M1,i1,j1,by simpa using n1⟩) ?_)
    · rintro y _ st2 _ hy ⟨s2,o,i,j,p,q,rfl,M2,i2,j2,n2⟩;show wpS _ _ _ _ (l1 a b g (none,o,i,j,p,q)) _ _;exact Us (n:=x+2) C T ((s1.trans s2).k.trans hk) M2 i2 j2 (by omega) (λ r z f=>⟨s2, .inl ⟨r,z,rfl,f⟩⟩) λ o i j p q m=>⟨⟨s2, .inr ⟨o,i,j,p,q,rfl,m⟩⟩,⟨s2,o,i,j,p,q,rfl,m.1,m.2.1,m.2.2.1,by have:=m.2.2.2;omega⟩⟩
    · rintro _ st2 ⟨s2,o,i,j,p,q,rfl,M2,i2,j2,n2⟩;exact ⟨s2, .inr ⟨o,i,j,p,q,rfl,M2,i2,j2,by omega⟩⟩
    · rintro _ st2 ⟨s2,⟨r,z,rfl,f⟩ | ⟨o,i,j,p,q,rfl,M2,i2,j2,n2⟩⟩
      · exact wpS_pure ⟨s1.trans s2,r,_,rfl,f⟩
      dsimp only;have s02:=s1.trans s2;refine wpS_bind (wpS_lift (wpAny_rule ⟨rfl,?_⟩));refine wpS_bind (wpS_mono (wpS_forRange (I:=λ y c st'=>SS st2 st'/\∃ o i j g p q,c=(none,o,i,j,g,p,q)/\Mid ρ a b (x+2) o i j) (Q:=λ c st'=>SS st2 st'/\((∃ r z,c=(some r,z)/\FA ρ a b r)\/∃ o i j g p q,c=(none,o,i,j,g,p,q)/\Mid ρ a b (x+2) o i j)) ?_ ?_ ⟨SS.refl,_,_,_,_,_,_,rfl,M2,i2,j2,n2⟩) ?_)
      · rintro y _ st3 _ hy ⟨s3,o,i,j,g,p,q,rfl,M3,i3,j3,n3⟩;dsimp only;by_cases cg:g>1
        · rw [if_pos cg];exact Qu (n:=x+2) C T ((s02.trans s3).k.trans hk) M3 i3 j3 n3 (λ r z st' s' f=>⟨s3.trans s', .inl ⟨r,z,rfl,f⟩⟩) λ o i j g p q st' s' m=>⟨⟨s3.trans s', .inr ⟨o,i,j,g,p,q,rfl,m⟩⟩,⟨s3.trans s',o,i,j,g,p,q,rfl,m⟩⟩
        · rw [if_neg cg];exact Qu (n:=x+2) C T ((s02.trans s3).k.trans hk) M3 i3 j3 n3 (λ r z st' s' f=>⟨s3.trans s', .inl ⟨r,z,rfl,f⟩⟩) λ o i j g p q st' s' m=>⟨⟨s3.trans s', .inr ⟨o,i,j,g,p,q,rfl,m⟩⟩,⟨s3.trans s',o,i,j,g,p,q,rfl,m⟩⟩
      · rintro _ st3 ⟨s3,o,i,j,g,p,q,rfl,m⟩;exact ⟨s3, .inr ⟨o,i,j,g,p,q,rfl,m⟩⟩
      · rintro _ st3 ⟨s3,⟨r,z,rfl,f⟩ | ⟨o,i,j,g,p,q,rfl,m⟩⟩
        · exact wpS_pure ⟨s02.trans s3,r,_,rfl,f⟩
        · dsimp only;exact wpS_bind (IC λ st4 s4=>wpS_pure ⟨s02.trans (s3.trans s4),_,_,_,_,rfl,m⟩)
  · rintro _ st1 ⟨s1,o,i,j,g,rfl,M1,i1,j1,n1⟩;exfalso;omega
  · rintro _ st1 ⟨s1,r,y,rfl,f⟩;exact wpS_pure (h r st1 s1 f)
end
end
structure MH (ρ:Keyed->Nat) (a b u:List Keyed) (i j:Nat):Prop where
  hi:i<=a.length
  hj:j<=b.length
  pm:u.Perm (a.drop i++b.drop j)
  so:Sd ρ u
  la:∀ x∈a.take i,∀ y∈u,ρ x<ρ y
  lb:∀ x∈b.take j,∀ y∈u,ρ x<ρ y
section
variable {ρ:Keyed->Nat} {a b u:List Keyed} {i j k:Nat}
theorem MH.swap (h:MH ρ a b u i j):MH ρ b a u j i:=⟨h.hj,h.hi,h.pm.trans List.perm_append_comm,h.so,h.lb,h.la⟩
theorem PR {l:List Keyed} {i k:Nat} {x:Keyed} (h:x∈(l.drop k).take (i - k)):x∈l.take i:=by
  rw [<-List.drop_take] at h;exact List.mem_of_mem_drop h
theorem MH.takeA (h:MH ρ a b u i j) (sa:Sd ρ a) (hk:k<=i) (lo:∀ y∈(a.drop k).take (i - k),∀ x∈b.take j,ρ x<ρ y):MH ρ a b ((a.drop k).take (i - k)++u) k j:=by
  have hi:=h.hi;have e:(a.drop k).take (i - k)++a.drop i=a.drop k:=by
    conv=>rhs;rw [<-Af5 (i - k) (a.drop k)]
    rw [List.drop_drop,show k+(i - k)=i by omega]
  refine ⟨by omega,h.hj,?_,?_,λ x hx y hy=> ?_,λ x hx y hy=> ?_⟩
  · have q:=h.pm.append_left ((a.drop k).take (i - k));rw [<-Af1,e] at q;exact q
  · exact Ah6.mpr ⟨List.Pairwise.sublist ((List.take_sublist _ _).trans (List.drop_sublist _ _)) sa,h.so,λ x hx y hy=>h.la x (PR hx) y hy⟩
  · rcases Ac4.mp hy with q | q
    · have s1:Sd ρ a:=sa;rw [<-Af5 k a] at s1;exact (Ah6.mp s1).2.2 x hx y (Aj5 q)
    · refine h.la x ?_ y q;rw [show k=min k i by omega, <-List.take_take] at hx;exact Aj5 hx
  · rcases Ac4.mp hy with q | q
    · exact lo y q x hx
    · exact h.lb x hx y q
theorem MH.takeB (h:MH ρ a b u i j) (sb:Sd ρ b) (hk:k<=j) (lo:∀ y∈(b.drop k).take (j - k),∀ x∈a.take i,ρ x<ρ y):MH ρ a b ((b.drop k).take (j - k)++u) i k:=(h.swap.takeA sb hk lo).swap
theorem MH.fin (h:MH ρ a b u i j) (sb:Sd ρ b) (hi:i=0):Fin ρ a b (b.take j++u):=by
  subst hi;have q:=h.takeB (k:=0) sb (Ad3 _) λ y _ x hx=>by rw [List.take_zero] at hx;cases hx
  rw [List.drop_zero,Nat.sub_zero] at q;exact ⟨q.pm,q.so⟩
theorem EH (s:Sd ρ a) (hi:i<=a.length) (h0:0<i) {x y:Keyed} (hy:ρ (a.getD (i - 1) dK)<ρ y) (hx:x∈a.take i):ρ x<ρ y:=by
  obtain ⟨t,ht,rfl⟩:=List.mem_iff_getElem.mp hx;rw [Ag8] at ht;rw [List.getElem_take];have e:a[t]'(by omega)=a.getD t dK:=by rw [Aa0,Aa1 (by omega)];rfl
  rw [e];rcases Ad4 t (i - 1) with q | q
  · exact Ae6 (s.lt q (by omega)) hy
  · rw [show t=i - 1 by omega];exact hy
end
theorem RA (a b:Array Keyed):RZ a b=(do
  rule "list.sort.merge-hi"
  let tot:=a.size+b.size;let fa (o:Array Keyed) (i j:Nat):=a.extract 0 i++b.extract 0 j++o.reverse;let fb (o:Array Keyed) (i j:Nat):=b.extract 0 j++a.extract 0 i++o.reverse
  let mut i:=a.size - 1
  let mut j:=b.size
  let mut o:Array Keyed:= #[<-elem' a i]
  if i == 0 then return fa o i j
  if j == 1 then return fb o i j
  let mut g:=gallopOf (<-get)
  for _ in [0:tot] do
    let mut p:=0
    let mut q:=0
    for _ in [0:tot] do
      let some c <-lt' (<-elem' b (j - 1)) (<-elem' a (i - 1)) | return fa o i j
      if c then
        i:=i - 1;o:=o.push (<-elem' a i);p:=p+1;q:=0
        if i == 0 then return fa o i j
        if p>=g then break
      else
        j:=j - 1;o:=o.push (<-elem' b j);q:=q+1;p:=0
        if j == 1 then return fb o i j
        if q>=g then break
    rule "list.sort.gallop"
    g:=g+1
    for _ in [0:tot] do
      if g>1 then g:=g - 1
      Jx g
      let some t <-FG false (<-elem' b (j - 1)) a 0 i (i - 1) | return fa o i j
      let k:=i - t
      p:=k
      if k>0 then
        o:=o++(a.extract t i).reverse;i:=t
        if i == 0 then return fa o i j
      j:=j - 1;o:=o.push (<-elem' b j)
      if j == 1 then return fb o i j
      let some t <-FG true (<-elem' a (i - 1)) b 0 j (j - 1) | return fa o i j
      let k:=j - t
      q:=k
      if k>0 then
        o:=o++(b.extract t j).reverse;j:=t
        if j == 1 then return fb o i j
        if j == 0 then return fa o i j
      i:=i - 1;o:=o.push (<-elem' a i)
      if i == 0 then return fa o i j
      if p<7&&q<7 then break
    g:=g+1
    Jx g
  unsupported "internal:list.sort.merge-bound"):=rfl
theorem Jz {o:Array Keyed} {x:Keyed}:(o.push x).toList.reverse=[x]++o.toList.reverse:=by rw [Array.toList_push,List.reverse_append];all_goals rfl
theorem Jk {o b:Array Keyed} {t j:Nat}:(o++(b.extract t j).reverse).toList.reverse=(b.toList.drop t).take (j - t)++o.toList.reverse:=by
  rw [Array.toList_append,List.reverse_append,Array.toList_reverse,List.reverse_reverse,Af8]
  all_goals rfl
theorem EQ {b:Array Keyed} {j:Nat} (h0:0<j) (h:j<=b.size):[b.getD (j - 1) dK]=(b.toList.drop (j - 1)).take (j - (j - 1)):=by
  rw [show j - (j - 1)=1 by omega];exact EE (by omega)
theorem Qw {a b o:Array Keyed} {i j:Nat}:(a.extract 0 i++b.extract 0 j++o.reverse).toList=a.toList.take i++b.toList.take j++o.toList.reverse:=by
  rw [Array.toList_append,Array.toList_append,Af8,Af8,Array.toList_reverse]
  all_goals rfl
section
variable {prog:Program} {w:World} {A:Around} {E:Value->Shared->Prop} {s:Shared} {κ:SortKind} {D:Keyed->Prop} {ρ:Keyed->Nat}
abbrev HA (ρ:Keyed->Nat) (a b o:Array Keyed) (i j:Nat):Prop:=MH ρ a.toList b.toList o.toList.reverse i j
section
variable {a b o:Array Keyed} {i j k:Nat}
theorem HA.putA (T:Two D ρ a b) (h:HA ρ a b o i j) (hi:i<=a.size) (i0:0<i) (hj:j<=b.size) (j0:0<j) (lt:ρ (b.getD (j - 1) dK)<ρ (a.getD (i - 1) dK)):HA ρ a b (o.push (a.getD (i - 1) dK)) (i - 1) j:=by
  unfold HA;rw [Jz,EQ i0 hi];refine MH.takeA h T.sa (by omega) λ y hy x hx=> ?_;rw [<-EQ i0 hi] at hy;rw [Ab7.mp hy];exact EH T.sb (by simpa using hj) j0 (by rw [<-Au];exact lt) hx
theorem HA.putB (T:Two D ρ a b) (h:HA ρ a b o i j) (hi:i<=a.size) (i0:0<i) (hj:j<=b.size) (j0:0<j) (lt:ρ (a.getD (i - 1) dK)<ρ (b.getD (j - 1) dK)):HA ρ a b (o.push (b.getD (j - 1) dK)) i (j - 1):=by
  unfold HA;rw [Jz,EQ j0 hj];refine MH.takeB h T.sb (by omega) λ y hy x hx=> ?_;rw [<-EQ j0 hj] at hy;rw [Ab7.mp hy];exact EH T.sa (by simpa using hi) i0 (by rw [<-Au];exact lt) hx
theorem HA.moreA (T:Two D ρ a b) (h:HA ρ a b o i j) (hk:k<=i) (hi:i<=a.size) (hj:j<=b.size) (j0:0<j) (lt:∀ t,k<=t->t<i->ρ (b.getD (j - 1) dK)<ρ (a.getD t dK)):HA ρ a b (o++(a.extract k i).reverse) k j:=by
  unfold HA;rw [Jk];refine MH.takeA h T.sa hk λ y hy x hx=> ?_;obtain ⟨t,ht,rfl⟩:=By (by simpa using (show k+(i - k)<=a.size by omega)) hy;exact EH T.sb (by simpa using hj) j0 (by rw [<-Au, <-Au];exact lt _ (by omega) (by omega)) hx
theorem HA.moreB (T:Two D ρ a b) (h:HA ρ a b o i j) (hk:k<=j) (hj:j<=b.size) (hi:i<=a.size) (i0:0<i) (lt:∀ t,k<=t->t<j->ρ (a.getD (i - 1) dK)<ρ (b.getD t dK)):HA ρ a b (o++(b.extract k j).reverse) i k:=by
  unfold HA;rw [Jk];refine MH.takeB h T.sb hk λ y hy x hx=> ?_;obtain ⟨t,ht,rfl⟩:=By (by simpa using (show k+(j - k)<=b.size by omega)) hy;exact EH T.sa (by simpa using hi) i0 (by rw [<-Au, <-Au];exact lt _ (by omega) (by omega)) hx
theorem HA.finA (T:Two D ρ a b) (h:HA ρ a b o i j) (hi:i=0):FA ρ a b (a.extract 0 i++b.extract 0 j++o.reverse):=by
  unfold FA;rw [Qw];subst hi;rw [List.take_zero,List.nil_append];exact MH.fin h T.sb rfl
theorem HA.finB (T:Two D ρ a b) (h:HA ρ a b o i j) (hj:j=1):FA ρ a b (b.extract 0 j++a.extract 0 i++o.reverse):=by
  unfold FA;rw [Qw];subst hj;have q:=MH.takeA (k:=0) h T.sa (Ad3 _) λ y hy x hx=>by
    have hi:=h.hi;obtain ⟨t,ht,rfl⟩:=By (by omega) hy;refine EH T.sb (by simpa using (Nat.succ_le_of_lt T.pb)) (by decide) ?_ hx;rw [<-Au, <-Au];have hi':i<=a.size:=by simpa using hi
    show ρ (b.getD 0 dK)<ρ (a.getD (0+t) dK);rcases Nat.eq_zero_or_pos t with rfl | z
    · exact T.lo
    · exact Ae6 T.lo (CS T.sa (by omega) (by omega))
  rw [List.drop_zero,Nat.sub_zero] at q;have f:=MH.fin q T.sb rfl;rw [<-Af1] at f;exact f
theorem HA.first (T:Two D ρ a b):HA ρ a b #[a.getD (a.size - 1) dK] (a.size - 1) b.size:=by
  have h0:HA ρ a b #[] a.size b.size:=⟨by simp,by simp,by simp,List.Pairwise.nil,λ x _ y hy=>by simp at hy,λ x _ y hy=>by simp at hy⟩;exact h0.putA T (Aa6 _) T.pa (Aa6 _) T.pb T.hi
end
abbrev U1:Type:=Option (Array Keyed) × Nat × Nat × Array Keyed × Nat × Nat
abbrev U2:Type:=Option (Array Keyed) × Nat × Nat × Array Keyed × Nat × Nat × Nat
def k1A (a b o:Array Keyed) (g i j p q:Nat):StateT SortSt Sem (ForInStep U1):=do
  let x <-elem' a (i - 1)
  if (i - 1 == 0)=true then pure (.done (some (a.extract 0 (i - 1)++b.extract 0 j++(o.push x).reverse),i - 1,j,o.push x,p+1,0))
  else if p+1>=g then pure (.done (none,i - 1,j,o.push x,p+1,0)) else pure (.yield (none,i - 1,j,o.push x,p+1,0))
def k1B (a b o:Array Keyed) (g i j p q:Nat):StateT SortSt Sem (ForInStep U1):=do
  let y <-elem' b (j - 1)
  if (j - 1 == 1)=true then pure (.done (some (b.extract 0 (j - 1)++a.extract 0 i++(o.push y).reverse),i,j - 1,o.push y,0,q+1))
  else if q+1>=g then pure (.done (none,i,j - 1,o.push y,0,q+1)) else pure (.yield (none,i,j - 1,o.push y,0,q+1))
def k1 (a b o:Array Keyed) (g i j p q:Nat):StateT SortSt Sem (ForInStep U1):=do
  let y <-elem' b (j - 1)
  let x <-elem' a (i - 1)
  let some e <-lt' y x | pure (.done (some (a.extract 0 i++b.extract 0 j++o.reverse),i,j,o,p,q))
  if e=true then k1A a b o g i j p q else k1B a b o g i j p q
def h4 (a b o:Array Keyed) (i j g k m:Nat):StateT SortSt Sem (ForInStep U2):=do
  let x <-elem' a (i - 1)
  if (i - 1 == 0)=true then pure (.done (some (a.extract 0 (i - 1)++b.extract 0 j++(o.push x).reverse),i - 1,j,o.push x,g,k,m))
  else if (decide (k<7)&&decide (m<7))=true then pure (.done (none,i - 1,j,o.push x,g,k,m)) else pure (.yield (none,i - 1,j,o.push x,g,k,m))
def h3 (a b o:Array Keyed) (i j g k q:Nat):StateT SortSt Sem (ForInStep U2):=do
  let y <-elem' b (j - 1)
  if (j - 1 == 1)=true then pure (.done (some (b.extract 0 (j - 1)++a.extract 0 i++(o.push y).reverse),i,j - 1,o.push y,g,k,q))
  else do
    let x <-elem' a (i - 1)
    let some t <-FG true x b 0 (j - 1) (j - 1 - 1) | pure (.done (some (a.extract 0 i++b.extract 0 (j - 1)++(o.push y).reverse),i,j - 1,o.push y,g,k,q))
    if j - 1 - t>0 then (if (t == 1)=true then pure (.done (some (b.extract 0 t++a.extract 0 i++(o.push y++(b.extract t (j - 1)).reverse).reverse),i,t,o.push y++(b.extract t (j - 1)).reverse,g,k,j - 1 - t)) else if (t == 0)=true then pure (.done (some (a.extract 0 i++b.extract 0 t++(o.push y++(b.extract t (j - 1)).reverse).reverse),i,t,o.push y++(b.extract t (j - 1)).reverse,g,k,j - 1 - t)) else h4 a b (o.push y++(b.extract t (j - 1)).reverse) i t g k (j - 1 - t)) else h4 a b (o.push y) i (j - 1) g k (j - 1 - t)
def h2 (a b o:Array Keyed) (i j g p q:Nat):StateT SortSt Sem (ForInStep U2):=do
  Jx g
  let y <-elem' b (j - 1)
  let some t <-FG false y a 0 i (i - 1) | pure (.done (some (a.extract 0 i++b.extract 0 j++o.reverse),i,j,o,g,p,q))
  if i - t>0 then (if (t == 0)=true then pure (.done (some (a.extract 0 t++b.extract 0 j++(o++(a.extract t i).reverse).reverse),t,j,o++(a.extract t i).reverse,g,i - t,q)) else h3 a b (o++(a.extract t i).reverse) t j g (i - t) q) else h3 a b o i j g (i - t) q
def FE (ρ:Keyed->Nat) (a b:Array Keyed) (n:Nat) (o:Array Keyed) (i j:Nat):Prop:=HA ρ a b o i j/\1<=i/\2<=j/\i<=a.size/\j<=b.size/\n+i+j<=a.size+b.size
section
variable {a b:Array Keyed} {st:SortSt}
theorem Q5 (T:Two D ρ a b) {o:Array Keyed} {i j g k m n:Nat} {Q:ForInStep U2->SortSt->Prop} (h:HA ρ a b o i j) (hi:1<=i) (hj:2<=j) (ia:i<=a.size) (jb:j<=b.size) (lt:ρ (b.getD (j - 1) dK)<ρ (a.getD (i - 1) dK)) (hn:n+i+j<=a.size+b.size)
    (q1:∀ r x,FA ρ a b r->Q (.done (some r,x)) st) (q2:∀ o i j g p q,FE ρ a b n o i j->Q (.done (none,i,j,o,g,p,q)) st/\Q (.yield (none,i,j,o,g,p,q)) st):wpS (model prog w) A E s (h4 a b o i j g k m) Q st:=by
  unfold h4;refine wpS_bind (AB (by omega) ?_);have h2:=h.putA T ia (by omega) jb (by omega) lt;by_cases c:i - 1=0
  · rw [if_pos (by rw [beq_iff_eq];exact c)];exact wpS_pure (q1 _ _ (h2.finA T c))
  · rw [if_neg (by rw [beq_iff_eq];exact c)];have M:FE ρ a b n (o.push (a.getD (i - 1) dK)) (i - 1) j:=⟨h2,by omega,hj,by omega,jb,by omega⟩;by_cases cq:(decide (k<7)&&decide (m<7))=true
    · rw [if_pos cq];exact wpS_pure (q2 _ _ _ _ _ _ M).1
    · rw [if_neg cq];exact wpS_pure (q2 _ _ _ _ _ _ M).2
theorem QG (C:Cmp prog w A E s κ D ρ) (T:Two D ρ a b) (hk:kindOf st=κ) {o:Array Keyed} {i j g k q n:Nat} {Q:ForInStep U2->SortSt->Prop} (h:HA ρ a b o i j) (hi:1<=i) (hj:2<=j) (ia:i<=a.size) (jb:j<=b.size) (lt:ρ (a.getD (i - 1) dK)<ρ (b.getD (j - 1) dK)) (hn:n+i+j<=a.size+b.size)
    (q1:∀ r x,FA ρ a b r->Q (.done (some r,x)) st) (q2:∀ o i j g p q,FE ρ a b n o i j->Q (.done (none,i,j,o,g,p,q)) st/\Q (.yield (none,i,j,o,g,p,q)) st):wpS (model prog w) A E s (h3 a b o i j g k q) Q st:=by
  unfold h3;refine wpS_bind (AB (by omega) ?_);have h2:=h.putB T ia (by omega) jb (by omega) lt;by_cases c:j - 1=1
  · rw [if_pos (by rw [beq_iff_eq];exact c)];exact wpS_pure (q1 _ _ (h2.finB T c))
  · rw [if_neg (by rw [beq_iff_eq];exact c)];refine wpS_bind (AB (by omega) (wpS_bind (E5 C hk (by omega) (by omega) (λ t ht=>T.db _ (by omega)) (T.da _ (by omega)) (λ t ht z=>T.ne (i - 1) (0+t) (by omega) (by omega) z.symm) (λ t u h1 h2=>CS T.sb (by omega) (by omega)) λ t ht m1 m2=> ?_)));simp only [Nat.zero_add] at m1 m2;have t1:1<=t:=by
      rcases Nat.eq_zero_or_pos t with rfl | z
      · have y:=m2 0 (Aa6 _) (by omega);have y2:=T.lo;rcases Nat.eq_zero_or_pos (i - 1) with e | e
        · rw [e] at y;omega
        · have:=CS T.sa e (show i - 1<a.size by omega);omega
      · exact z
    dsimp only;by_cases cm:j - 1 - t>0
    · rw [if_pos cm];have h3:=h2.moreB T (k:=t) (by omega) (by omega) ia (by omega) (λ u h1 h2=>m2 u h1 h2);by_cases c2:t=1
      · rw [if_pos (by rw [beq_iff_eq];exact c2)];exact wpS_pure (q1 _ _ (h3.finB T c2))
      · rw [if_neg (by rw [beq_iff_eq];exact c2),if_neg (by rw [beq_iff_eq];omega)];exact Q5 T h3 hi (by omega) ia (by omega) (m1 (t - 1) (by omega)) (by omega) q1 q2
    · rw [if_neg cm];have e:t=j - 1:=by omega
      exact Q5 T h2 hi (by omega) ia (by omega) (m1 (j - 1 - 1) (by omega)) (by omega) q1 q2
theorem Qt (C:Cmp prog w A E s κ D ρ) (T:Two D ρ a b) (hk:kindOf st=κ) {o:Array Keyed} {i j g p q n:Nat} {Q:ForInStep U2->SortSt->Prop} (h:HA ρ a b o i j) (hi:1<=i) (hj:2<=j) (ia:i<=a.size) (jb:j<=b.size) (hn:n+i+j<=a.size+b.size)
    (q1:∀ r x st',SS st st'->FA ρ a b r->Q (.done (some r,x)) st') (q2:∀ o i j g p q st',SS st st'->FE ρ a b n o i j->Q (.done (none,i,j,o,g,p,q)) st'/\Q (.yield (none,i,j,o,g,p,q)) st'):wpS (model prog w) A E s (h2 a b o i j g p q) Q st:=by
  unfold h2;refine wpS_bind (IC λ st1 s1=>wpS_bind (AB (by omega) (wpS_bind (E5 C (s1.k.trans hk) (by omega) (by omega) (λ t ht=>T.da _ (by omega)) (T.db _ (by omega)) (λ t ht=>T.ne (0+t) (j - 1) (by omega) (by omega)) (λ t u h1 h2=>CS T.sa (by omega) (by omega)) λ t ht k1 k2=> ?_))));simp only [Nat.zero_add] at k1 k2;dsimp only;by_cases ck:i - t>0
  · rw [if_pos ck];have h2:=h.moreA T (k:=t) ht ia jb (by omega) (λ u h1 h2=>k2 u h1 h2);by_cases c:t=0
    · rw [if_pos (by rw [beq_iff_eq];exact c)];exact wpS_pure (q1 _ _ _ s1 (h2.finA T c))
    · rw [if_neg (by rw [beq_iff_eq];exact c)];exact QG C T (s1.k.trans hk) h2 (by omega) hj (by omega) jb (k1 (t - 1) (by omega)) (by omega) (λ r x f=>q1 r x _ s1 f) λ o i j g p q m=>q2 o i j g p q _ s1 m
  · rw [if_neg ck];exact QG C T (s1.k.trans hk) h hi hj ia jb (k1 (i - 1) (by omega)) hn (λ r x f=>q1 r x _ s1 f) λ o i j g p q m=>q2 o i j g p q _ s1 m
theorem TC (C:Cmp prog w A E s κ D ρ) (T:Two D ρ a b) (hk:kindOf st=κ) {o:Array Keyed} {i j g p q n:Nat} {Q:ForInStep U1->SortSt->Prop} (h:HA ρ a b o i j) (hi:1<=i) (hj:2<=j) (ia:i<=a.size) (jb:j<=b.size) (hn:n+i+j<=a.size+b.size+1)
    (q1:∀ r x,FA ρ a b r->Q (.done (some r,x)) st) (q2:∀ o i j p q,FE ρ a b n o i j->Q (.done (none,i,j,o,p,q)) st/\Q (.yield (none,i,j,o,p,q)) st):wpS (model prog w) A E s (k1 a b o g i j p q) Q st:=by
  unfold k1;refine wpS_bind (AB (by omega) (wpS_bind (AB (by omega) (wpS_bind (C.lt _ _ _ _ hk (T.db _ (by omega)) (T.da _ (by omega)) ?_)))));dsimp only;by_cases lt:ρ (b.getD (j - 1) dK)<ρ (a.getD (i - 1) dK)
  · rw [decide_eq_true lt];show wpS _ _ _ _ (k1A a b o g i j p q) _ _;unfold k1A;refine wpS_bind (AB (by omega) ?_);have h2:=h.putA T ia (by omega) jb (by omega) lt;by_cases c:i - 1=0
    · rw [if_pos (by rw [beq_iff_eq];exact c)];exact wpS_pure (q1 _ _ (h2.finA T c))
    · rw [if_neg (by rw [beq_iff_eq];exact c)];have M:FE ρ a b n (o.push (a.getD (i - 1) dK)) (i - 1) j:=⟨h2,by omega,hj,by omega,jb,by omega⟩;by_cases cq:p+1>=g
      · rw [if_pos cq];exact wpS_pure (q2 _ _ _ _ _ M).1
      · rw [if_neg cq];exact wpS_pure (q2 _ _ _ _ _ M).2
  · rw [decide_eq_false lt];have lt':ρ (a.getD (i - 1) dK)<ρ (b.getD (j - 1) dK):=by have:=T.ne (i - 1) (j - 1) (by omega) (by omega);omega
    show wpS _ _ _ _ (k1B a b o g i j p q) _ _;unfold k1B;refine wpS_bind (AB (by omega) ?_);have h2:=h.putB T ia (by omega) jb (by omega) lt';by_cases c:j - 1=1
    · rw [if_pos (by rw [beq_iff_eq];exact c)];exact wpS_pure (q1 _ _ (h2.finB T c))
    · rw [if_neg (by rw [beq_iff_eq];exact c)];have M:FE ρ a b n (o.push (b.getD (j - 1) dK)) i (j - 1):=⟨h2,hi,by omega,ia,by omega,by omega⟩;by_cases cq:q+1>=g
      · rw [if_pos cq];exact wpS_pure (q2 _ _ _ _ _ M).1
      · rw [if_neg cq];exact wpS_pure (q2 _ _ _ _ _ M).2
theorem RI (C:Cmp prog w A E s κ D ρ) (T:Two D ρ a b) (hk:kindOf st=κ) {Q:Array Keyed->SortSt->Prop} (h:∀ r st',SS st st'->FA ρ a b r->Q r st'):wpS (model prog w) A E s (RZ a b) Q st:=by
  rw [RA];dsimp only;have M0:=HA.first T;have pa:=T.pa;have pb:=T.pb;refine wpS_bind (wpS_lift (wpAny_rule ⟨rfl,?_⟩));refine wpS_bind (AB (by omega) ?_);by_cases c1:a.size - 1=0
  · rw [if_pos (by rw [beq_iff_eq];exact c1)];exact wpS_pure (h _ _ SS.refl (M0.finA T c1))
  rw [if_neg (by rw [beq_iff_eq];exact c1)];by_cases c2:b.size=1
  · rw [if_pos (by rw [beq_iff_eq];exact c2)];exact wpS_pure (h _ _ SS.refl (M0.finB T c2))
  rw [if_neg (by rw [beq_iff_eq];exact c2)];refine wpS_bind (wpS_get (wpS_bind (wpS_mono (wpS_forRange (I:=λ x c st'=>SS st st'/\∃ o i j g,c=(none,i,j,o,g)/\FE ρ a b (x+1) o i j) (Q:=λ c st'=>SS st st'/\∃ r y,c=(some r,y)/\FA ρ a b r) ?_ ?_ ⟨SS.refl,_,_,_,_,rfl,M0,by omega,by omega,by omega,by omega,by omega⟩) ?_)))
  · rintro x _ st1 _ hx ⟨s1,o,i,j,g,rfl,M1,i1,j1,ia1,jb1,n1⟩;dsimp only;refine wpS_bind (wpS_mono (wpS_forRange (I:=λ y c st'=>SS st1 st'/\∃ o i j p q,c=(none,i,j,o,p,q)/\FE ρ a b (x+1+min y 1) o i j) (Q:=λ c st'=>SS st1 st'/\((∃ r z,c=(some r,z)/\FA ρ a b r)\/∃ o i j p q,c=(none,i,j,o,p,q)/\FE ρ a b (x+2) o i j)) ?_ ?_ ⟨SS.refl,_,_,_,_,_,rfl,M1,i1,j1,ia1,jb1,by simpa using n1⟩) ?_)
    · rintro y _ st2 _ hy ⟨s2,o,i,j,p,q,rfl,M2,i2,j2,ia2,jb2,n2⟩;show wpS _ _ _ _ (k1 a b o g i j p q) _ _;exact TC (n:=x+2) C T ((s1.trans s2).k.trans hk) M2 i2 j2 ia2 jb2 (by omega) (λ r z f=>⟨s2, .inl ⟨r,z,rfl,f⟩⟩) λ o i j p q m=>⟨⟨s2, .inr ⟨o,i,j,p,q,rfl,m⟩⟩,⟨s2,o,i,j,p,q,rfl,m.1,m.2.1,m.2.2.1,m.2.2.2.1,m.2.2.2.2.1,by have:=m.2.2.2.2.2;omega⟩⟩
    · rintro _ st2 ⟨s2,o,i,j,p,q,rfl,M2,i2,j2,ia2,jb2,n2⟩;exact ⟨s2, .inr ⟨o,i,j,p,q,rfl,M2,i2,j2,ia2,jb2,by omega⟩⟩
    · rintro _ st2 ⟨s2,⟨r,z,rfl,f⟩ | ⟨o,i,j,p,q,rfl,M2,i2,j2,ia2,jb2,n2⟩⟩
      · exact wpS_pure ⟨s1.trans s2,r,_,rfl,f⟩
      dsimp only;have s02:=s1.trans s2;refine wpS_bind (wpS_lift (wpAny_rule ⟨rfl,?_⟩));refine wpS_bind (wpS_mono (wpS_forRange (I:=λ y c st'=>SS st2 st'/\∃ o i j g p q,c=(none,i,j,o,g,p,q)/\FE ρ a b (x+2) o i j) (Q:=λ c st'=>SS st2 st'/\((∃ r z,c=(some r,z)/\FA ρ a b r)\/∃ o i j g p q,c=(none,i,j,o,g,p,q)/\FE ρ a b (x+2) o i j)) ?_ ?_ ⟨SS.refl,_,_,_,_,_,_,rfl,M2,i2,j2,ia2,jb2,n2⟩) ?_)
      · rintro y _ st3 _ hy ⟨s3,o,i,j,g,p,q,rfl,M3,i3,j3,ia3,jb3,n3⟩;dsimp only;by_cases cg:g>1
        · rw [if_pos cg];exact Qt (n:=x+2) C T ((s02.trans s3).k.trans hk) M3 i3 j3 ia3 jb3 n3 (λ r z st' s' f=>⟨s3.trans s', .inl ⟨r,z,rfl,f⟩⟩) λ o i j g p q st' s' m=>⟨⟨s3.trans s', .inr ⟨o,i,j,g,p,q,rfl,m⟩⟩,⟨s3.trans s',o,i,j,g,p,q,rfl,m⟩⟩
        · rw [if_neg cg];exact Qt (n:=x+2) C T ((s02.trans s3).k.trans hk) M3 i3 j3 ia3 jb3 n3 (λ r z st' s' f=>⟨s3.trans s', .inl ⟨r,z,rfl,f⟩⟩) λ o i j g p q st' s' m=>⟨⟨s3.trans s', .inr ⟨o,i,j,g,p,q,rfl,m⟩⟩,⟨s3.trans s',o,i,j,g,p,q,rfl,m⟩⟩
      · rintro _ st3 ⟨s3,o,i,j,g,p,q,rfl,m⟩;exact ⟨s3, .inr ⟨o,i,j,g,p,q,rfl,m⟩⟩
      · rintro _ st3 ⟨s3,⟨r,z,rfl,f⟩ | ⟨o,i,j,g,p,q,rfl,m⟩⟩
        · exact wpS_pure ⟨s02.trans s3,r,_,rfl,f⟩
        · dsimp only;exact wpS_bind (IC λ st4 s4=>wpS_pure ⟨s02.trans (s3.trans s4),_,_,_,_,rfl,m⟩)
  · rintro _ st1 ⟨s1,o,i,j,g,rfl,M1,i1,j1,ia1,jb1,n1⟩;exfalso;omega
  · rintro _ st1 ⟨s1,r,y,rfl,f⟩;exact wpS_pure (h r st1 s1 f)
end
end
structure Its (D:Keyed->Prop) (ρ:Keyed->Nat) (l:List Keyed):Prop where
  d:∀ x∈l,D x
  n:l.Pairwise λ x y=>ρ x≠ρ y
theorem Its.perm {D:Keyed->Prop} {ρ:Keyed->Nat} {l l':List Keyed} (h:Its D ρ l) (p:l'.Perm l):Its D ρ l':=⟨λ x hx=>h.d x (p.mem_iff.mp hx),(p.pairwise_iff (λ h=>Ne.symm h)).mpr h.n⟩
section
variable {D:Keyed->Prop} {ρ:Keyed->Nat} {xs:Array Keyed}
theorem Its.at (h:Its D ρ xs.toList) {i:Nat} (hi:i<xs.size):D (xs.getD i dK):=by
  rw [Au,Aa0,Aa1 (by simpa using hi)];exact h.d _ (Ad9 _)
theorem Its.ne (h:Its D ρ xs.toList) {i j:Nat} (hi:i<xs.size) (hj:j<xs.size) (hij:i≠j):ρ (xs.getD i dK)≠ρ (xs.getD j dK):=by
  have key:∀ {i j:Nat},i<j->j<xs.size->ρ (xs.getD i dK)≠ρ (xs.getD j dK):=λ {i j} h1 h2=>by
    rw [Au,Au,Aa0,Aa0,Aa1 (i:=j) (by simpa using h2),Aa1 (i:=i) (by simp;omega)];exact List.pairwise_iff_getElem.mp h.n i j (by simp;omega) (by simpa using h2) h1
  rcases Ad4 i j with q | q
  · exact key q hj
  · exact (key (show j<i by omega) hi).symm
end
def Rg (ρ:Keyed->Nat) (xs:Array Keyed) (lo m:Nat):Prop:=∀ i j,i<j->j<m->ρ (xs.getD (lo+i) dK)<ρ (xs.getD (lo+j) dK)
def Fg (ρ:Keyed->Nat) (xs:Array Keyed) (lo m:Nat):Prop:=∀ i j,i<j->j<m->ρ (xs.getD (lo+j) dK)<ρ (xs.getD (lo+i) dK)
section
variable {prog:Program} {w:World} {A:Around} {E:Value->Shared->Prop} {s:Shared} {κ:SortKind} {D:Keyed->Prop} {ρ:Keyed->Nat} {st:SortSt}
theorem HN (C:Cmp prog w A E s κ D ρ) (hk:kindOf st=κ) (I:Its D ρ (arrOf st).toList) {i j:Nat} {Q:Option Bool->SortSt->Prop} (hi:i<(arrOf st).size) (hj:j<(arrOf st).size) (h:Q (some (decide (ρ ((arrOf st).getD i dK)<ρ ((arrOf st).getD j dK)))) st):wpS (model prog w) A E s (ltAt' i j) Q st:=by
  rw [ltAt'_eq];exact wpS_bind (wpS_get (wpS_bind (AB hi (wpS_bind (AB hj (C.lt _ _ _ _ hk (I.at hi) (I.at hj) h))))))
structure Mv (st st':SortSt) (lo r:Nat):Prop where
  k:kindOf st'=kindOf st
  p:pendingOf st'=pendingOf st
  f:failedOf st'=failedOf st
  pm:(arrOf st').Perm (arrOf st)
  out:∀ i,i<lo\/lo+r<=i->(arrOf st').getD i dK=(arrOf st).getD i dK
theorem Mv.refl {st:SortSt} {lo r:Nat}:Mv st st lo r:=⟨rfl,rfl,rfl, .refl _,λ _ _=>rfl⟩
theorem Mv.trans {st st1 st2:SortSt} {lo r:Nat} (h:Mv st st1 lo r) (h':Mv st1 st2 lo r):Mv st st2 lo r:=⟨h'.k.trans h.k,h'.p.trans h.p,h'.f.trans h.f,h'.pm.trans h.pm,λ i hi=>(h'.out i hi).trans (h.out i hi)⟩
theorem GG {p q:Array Keyed} {i j:Nat} (h:p[i]?=q[j]?):p.getD i dK=q.getD j dK:=by
  have e:∀ (a:Array Keyed) k,a.getD k dK=(a[k]?).getD dK:=λ a k=>by simp
  rw [e,e,h]
theorem GR {xs:Array Keyed} {i j:Nat} (hj:j<=xs.size) (k:Nat):(mirror xs i j ((j - i) / 2)).getD k dK=if i<=k/\k<j then xs.getD (i+j - 1 - k) dK else xs.getD k dK:=by
  have e:=getElem?_mirror_all (i:=i) hj k;by_cases c:i<=k/\k<j
  · rw [if_pos c] at e ⊢;exact GG e
  · rw [if_neg c] at e ⊢;exact GG e
theorem Gf {xs:Array Keyed} {src d:Nat} (hs:src<xs.size) (hd:d<=src) (k:Nat):(bubble xs src d).getD k dK=if k=src - d then xs.getD src dK else if src - d<k/\k<=src then xs.getD (k - 1) dK else xs.getD k dK:=by
  have e:=getElem?_bubble hs d hd k;by_cases c:k=src - d
  · rw [if_pos c] at e ⊢;exact GG e
  · rw [if_neg c] at e ⊢;by_cases c2:src - d<k/\k<=src
    · rw [if_pos c2] at e ⊢;exact GG e
    · rw [if_neg c2] at e ⊢;exact GG e
theorem Mv.its {lo r:Nat} {st st':SortSt} (h:Mv st st' lo r) (I:Its D ρ (arrOf st).toList):Its D ρ (arrOf st').toList:=I.perm h.pm.toList
theorem Mv.size {lo r:Nat} {st st':SortSt} (h:Mv st st' lo r):(arrOf st').size=(arrOf st).size:=h.pm.size_eq
theorem Su {i j r:Nat} {Q:Unit->SortSt->Prop} (hj:j<=(arrOf st).size) (hr:j<=i+r) (h:∀ st',Mv st st' i r->(∀ k,i<=k->k<j->(arrOf st').getD k dK=(arrOf st).getD (i+j - 1 - k) dK)->Q () st'):wpS (model prog w) A E s (reverseSlice' i j) Q st:=by
  rw [reverseSlice'_eq];refine wpS_modify (h _ ⟨rfl,rfl,rfl,mirror_perm _ _ _ _,λ k hk=> ?_⟩ λ k h1 h2=> ?_)
  · show (mirror (arrOf st) i j ((j - i) / 2)).getD k dK=_;rw [GR hj,if_neg (by omega)]
  · show (mirror (arrOf st) i j ((j - i) / 2)).getD k dK=_;rw [GR hj,if_pos ⟨h1,h2⟩]
theorem PM {lo k l r:Nat} {Q:Unit->SortSt->Prop} (hs:lo+k<(arrOf st).size) (hl:l<=k) (hr:k<r) (h:∀ st',Mv st st' lo r->(∀ i,(arrOf st').getD (lo+i) dK=if i=l then (arrOf st).getD (lo+k) dK else if l<i/\i<=k then (arrOf st).getD (lo+(i - 1)) dK else (arrOf st).getD (lo+i) dK)->Q () st'):wpS (model prog w) A E s (moveDown' (lo+k) (lo+l)) Q st:=by
  rw [moveDown'_eq];refine wpS_modify (h _ ⟨rfl,rfl,rfl,bubble_perm _ _ _,λ i hi=> ?_⟩ λ i=> ?_)
  · show (bubble (arrOf st) (lo+k) (lo+k - (lo+l))).getD i dK=_;rw [Gf hs (by omega),if_neg (by omega),if_neg (by omega)]
  · show (bubble (arrOf st) (lo+k) (lo+k - (lo+l))).getD (lo+i) dK=_;rw [Gf hs (by omega)];by_cases c:i=l
    · rw [if_pos (by omega),if_pos c]
    · rw [if_neg (by omega),if_neg c];by_cases c2:l<i/\i<=k
      · rw [if_pos (by omega),if_pos c2,show lo+i - 1=lo+(i - 1) by omega]
      · rw [if_neg (by omega),if_neg c2]
theorem IM {xs:Array Keyed} {lo:Nat}:Rg ρ xs lo 1:=λ i j h1 h2=>by omega
theorem Lq {xs:Array Keyed} {lo m:Nat} (h:Rg ρ xs lo m) (hm:1<=m) (lt:ρ (xs.getD (lo+m - 1) dK)<ρ (xs.getD (lo+m) dK)):Rg ρ xs lo (m+1):=λ i j h1 h2=>by
  rcases Ad4 j m with q | q
  · exact h i j h1 q
  · rw [show j=m by omega];rcases Ad4 i (m - 1) with z | z
    · exact Ae6 (h i (m - 1) z (by omega)) (by rw [show lo+(m - 1)=lo+m - 1 by omega];exact lt)
    · rw [show lo+i=lo+m - 1 by omega];exact lt
theorem K8 {xs:Array Keyed} {lo m:Nat} (h:Fg ρ xs lo m) (hm:1<=m) (lt:ρ (xs.getD (lo+m) dK)<ρ (xs.getD (lo+m - 1) dK)):Fg ρ xs lo (m+1):=λ i j h1 h2=>by
  rcases Ad4 j m with q | q
  · exact h i j h1 q
  · rw [show j=m by omega];rcases Ad4 i (m - 1) with z | z
    · exact Ae6 (by rw [show lo+(m - 1)=lo+m - 1 by omega];exact lt) (h i (m - 1) z (by omega))
    · rw [show lo+i=lo+m - 1 by omega];exact lt
theorem IP (C:Cmp prog w A E s κ D ρ) (hk:kindOf st=κ) (I:Its D ρ (arrOf st).toList) {lo r:Nat} {Q:Option Nat->SortSt->Prop} (hr:1<=r) (hl:lo+r<=(arrOf st).size) (h:∀ m st',1<=m->m<=r->Mv st st' lo r->Rg ρ (arrOf st') lo m->Q (some m) st'):wpS (model prog w) A E s (countRun' lo r) Q st:=by
  rw [countRun'_eq];dsimp only;refine wpS_bind (wpS_mono (wpS_forRange (I:=λ x c st'=>st'=st/\c=(none,x)/\1<=x/\Rg ρ (arrOf st) lo x) (Q:=λ c st'=>st'=st/\∃ m,c=(none,m)/\1<=m/\m<=r/\Rg ρ (arrOf st) lo m/\(m<r->ρ ((arrOf st).getD (lo+m) dK)<ρ ((arrOf st).getD (lo+m - 1) dK))) ?_ ?_ ⟨rfl,rfl,Aa6 _,IM⟩) ?_)
  · rintro x _ st x1 hx ⟨rfl,rfl,_,R⟩;dsimp only;refine wpS_bind (HN C hk I (by omega) (by omega) ?_);dsimp only;by_cases c:ρ ((arrOf st).getD (lo+x) dK)<ρ ((arrOf st).getD (lo+x - 1) dK)
    · rw [decide_eq_true c];exact wpS_pure ⟨rfl,x,rfl,x1,by omega,R,λ _=>c⟩
    · rw [decide_eq_false c];have:=I.ne (i:=lo+x) (j:=lo+x - 1) (by omega) (by omega) (by omega);exact wpS_pure ⟨rfl,rfl,by omega,Lq R x1 (by omega)⟩
  · rintro _ st ⟨rfl,rfl,h1,R⟩;rw [show max 1 r=r by omega] at R h1 ⊢;exact ⟨rfl,r,rfl,h1,Aa6 _,R,λ z=>by omega⟩
  rintro _ st ⟨rfl,m,rfl,m1,mr,R,hm⟩;dsimp only;by_cases c1:m=r
  · rw [if_pos (by rw [beq_iff_eq];exact c1)];exact wpS_pure (h m st m1 mr .refl R)
  rw [if_neg (by rw [beq_iff_eq];exact c1)];by_cases c2:m>1
  · rw [if_pos c2];refine wpS_bind (HN C hk I (by omega) (by omega) ?_);have:=R 0 (m - 1) (by omega) (by omega);rw [show lo+(m - 1)=lo+m - 1 by omega,Nat.add_zero] at this;rw [decide_eq_true this];exact wpS_pure (h m st m1 mr .refl R)
  rw [if_neg c2];have e:m=1:=by omega
  subst e;refine wpS_bind (wpS_lift (wpAny_rule ⟨rfl,?_⟩));have F2:Fg ρ (arrOf st) lo 2:=K8 (m:=1) (λ i j a b=>by omega) (Aa6 _) (hm (by omega));refine wpS_bind (wpS_mono (wpS_forRange (I:=λ x c st'=>st'=st/\c=(none,x,0)/\2<=x/\Fg ρ (arrOf st) lo x) (Q:=λ c st'=>st'=st/\∃ m,c=(none,m,0)/\2<=m/\m<=r/\Fg ρ (arrOf st) lo m) ?_ ?_ ⟨rfl,rfl,Aa6 _,F2⟩) ?_)
  · rintro x _ st x1 hx ⟨rfl,rfl,x2,R⟩;dsimp only;refine wpS_bind (HN C hk I (by omega) (by omega) ?_);dsimp only;by_cases c:ρ ((arrOf st).getD (lo+x) dK)<ρ ((arrOf st).getD (lo+x - 1) dK)
    · rw [decide_eq_true c];exact wpS_pure ⟨rfl,rfl,by omega,K8 R (by omega) c⟩
    · rw [decide_eq_false c];have:=I.ne (i:=lo+x) (j:=lo+x - 1) (by omega) (by omega) (by omega);refine wpS_bind (HN C hk I (by omega) (by omega) ?_);rw [decide_eq_true (by omega)];exact wpS_pure ⟨rfl,x,rfl,x2,by omega,R⟩
  · rintro _ st ⟨rfl,rfl,h1,R⟩;rw [show max (1+1) r=r by omega] at R h1 ⊢;exact ⟨rfl,r,rfl,h1,Aa6 _,R⟩
  rintro _ st ⟨rfl,m,rfl,m2,mr,R⟩;dsimp only;rw [if_neg (by decide)];refine wpS_bind (Su (r:=r) (by omega) (by omega) λ st1 v1 e1=> ?_);have I1:=v1.its I;have sz:=v1.size;have R1:Rg ρ (arrOf st1) lo m:=λ i j h1 h2=>by
    rw [e1 _ (by omega) (by omega),e1 _ (by omega) (by omega)];have:=R (m - 1 - j) (m - 1 - i) (by omega) (by omega);rw [show lo+(lo+m) - 1 - (lo+i)=lo+(m - 1 - i) by omega,show lo+(lo+m) - 1 - (lo+j)=lo+(m - 1 - j) by omega];exact this
  refine wpS_bind (wpS_mono (wpS_forRange (I:=λ x c st'=>st'=st1/\c=(none,x)/\1<=x/\Rg ρ (arrOf st1) lo x) (Q:=λ c st'=>st'=st1/\∃ m,c=(none,m)/\1<=m/\m<=r/\Rg ρ (arrOf st1) lo m) ?_ ?_ ⟨rfl,rfl,by omega,R1⟩) ?_)
  · rintro x _ st1 x1 hx ⟨rfl,rfl,x2,R⟩;dsimp only;refine wpS_bind (HN C (v1.k.trans hk) I1 (by omega) (by omega) ?_);dsimp only;by_cases c:ρ ((arrOf st1).getD (lo+x) dK)<ρ ((arrOf st1).getD (lo+x - 1) dK)
    · rw [decide_eq_true c];exact wpS_pure ⟨rfl,x,rfl,x2,by omega,R⟩
    · rw [decide_eq_false c];have:=I1.ne (i:=lo+x) (j:=lo+x - 1) (by omega) (by omega) (by omega);exact wpS_pure ⟨rfl,rfl,by omega,Lq R x2 (by omega)⟩
  · rintro _ st1 ⟨rfl,rfl,h1,R⟩;rw [show max m r=r by omega] at R h1 ⊢;exact ⟨rfl,r,rfl,h1,Aa6 _,R⟩
  rintro _ st1 ⟨rfl,n,rfl,n1,nr,R⟩;exact wpS_pure (h n st1 n1 nr v1 R)
theorem Om (C:Cmp prog w A E s κ D ρ) (hk:kindOf st=κ) (I:Its D ρ (arrOf st).toList) {lo n ok:Nat} {Q:Bool->SortSt->Prop} (hn:lo+n<=(arrOf st).size) (h1:1<=ok) (hok:ok<=n) (R:Rg ρ (arrOf st) lo ok) (h:∀ st',Mv st st' lo n->Rg ρ (arrOf st') lo n->Q true st'):wpS (model prog w) A E s (binarySort' lo n ok) Q st:=by
  rw [binarySort'_eq];dsimp only;rw [show max ok 1=ok by omega];refine wpS_bind (wpS_mono (wpS_forRange (I:=λ k c st'=>c=(none,())/\Mv st st' lo n/\Rg ρ (arrOf st') lo k) (Q:=λ c st'=>c=(none,())/\Mv st st' lo n/\Rg ρ (arrOf st') lo n) ?_ ?_ ⟨rfl, .refl,R⟩) ?_)
  · rintro k _ st1 k1 hkn ⟨rfl,v1,R1⟩;have I1:=v1.its I;have sz:=v1.size;refine wpS_bind (wpS_mono (wpS_forRange (I:=λ x c st'=>st'=st1/\∃ l r,c=(none,l,r)/\l<=r/\r<=k/\r - l+x<=k/\(∀ i,i<l->ρ ((arrOf st1).getD (lo+i) dK)<ρ ((arrOf st1).getD (lo+k) dK))/\(∀ i,r<=i->i<k->ρ ((arrOf st1).getD (lo+k) dK)<ρ ((arrOf st1).getD (lo+i) dK))) (Q:=λ c st'=>st'=st1/\∃ l r,c=(none,l,r)/\l<=k/\(∀ i,i<l->ρ ((arrOf st1).getD (lo+i) dK)<ρ ((arrOf st1).getD (lo+k) dK))/\(∀ i,l<=i->i<k->ρ ((arrOf st1).getD (lo+k) dK)<ρ ((arrOf st1).getD (lo+i) dK))) ?_ ?_ ⟨rfl,0,k,rfl,Ad3 _,Aa6 _,by omega,λ i hi=>by omega,λ i h1 h2=>by omega⟩) ?_)
    · rintro x _ st1 _ hx ⟨rfl,l,r,rfl,a1,a2,a3,a4,a5⟩;dsimp only;by_cases c:l>=r
      · rw [if_pos c];exact wpS_pure ⟨rfl,l,r,rfl,by omega,a4,λ i h1 h2=>a5 i (by omega) h2⟩
      · rw [if_neg c];refine wpS_bind (HN C (v1.k.trans hk) I1 (by omega) (by omega) ?_);dsimp only;by_cases c2:ρ ((arrOf st1).getD (lo+k) dK)<ρ ((arrOf st1).getD (lo+(l+r) / 2) dK)
        · rw [decide_eq_true c2];refine wpS_pure ⟨rfl,l,(l+r) / 2,rfl,by omega,by omega,by omega,a4,λ i h1 h2=> ?_⟩;rcases Ad4 ((l+r) / 2) i with q | q
          · exact Ae6 c2 (R1 _ _ q h2)
          · rw [show i=(l+r) / 2 by omega];exact c2
        · rw [decide_eq_false c2];have:=I1.ne (i:=lo+k) (j:=lo+(l+r) / 2) (by omega) (by omega) (by omega);refine wpS_pure ⟨rfl,(l+r) / 2+1,r,rfl,by omega,a2,by omega,λ i hi=> ?_,a5⟩;rcases Ad4 i ((l+r) / 2) with q | q
          · exact Ae6 (R1 _ _ q (by omega)) (by omega)
          · rw [show i=(l+r) / 2 by omega];omega
    · rintro _ st1 ⟨rfl,l,r,rfl,a1,a2,a3,a4,a5⟩;rw [show max 0 k=k by omega] at a3;exact ⟨rfl,l,r,rfl,by omega,a4,λ i h1 h2=>a5 i (by omega) h2⟩
    · rintro _ st1 ⟨rfl,l,r,rfl,lk,a4,a5⟩;dsimp only;refine wpS_bind (PM (r:=n) (by omega) lk hkn λ st2 v2 e2=>wpS_pure ⟨rfl,v1.trans v2,λ i j h1 h2=> ?_⟩);rw [e2,e2];by_cases ci:i=l
      · rw [if_pos ci,if_neg (by omega),if_pos ⟨by omega,by omega⟩];exact a5 (j - 1) (by omega) (by omega)
      · rw [if_neg ci];by_cases cj:j=l
        · rw [if_pos cj,if_neg (by omega)];exact a4 i (by omega)
        · rw [if_neg cj];by_cases c3:l<i/\i<=k
          · rw [if_pos c3,if_pos ⟨by omega,by omega⟩];exact R1 _ _ (by omega) (by omega)
          · rw [if_neg c3];by_cases c4:l<j/\j<=k
            · rw [if_pos c4];rcases Ad4 i (j - 1) with q | q
              · exact R1 _ _ q (by omega)
              · exfalso;omega
            · rw [if_neg c4];exact R1 _ _ h1 (by omega)
  · rintro _ st1 ⟨rfl,v1,R1⟩;rw [show max ok n=n by omega] at R1;exact ⟨rfl,v1,R1⟩
  · rintro _ st1 ⟨rfl,v1,R1⟩;exact wpS_pure (h st1 v1 R1)
end
theorem S9 (i:Nat):mergeAt' i=(do
  let z <-get
  let (some (p,m,pw),some (q,n,_)):=((pendingOf z)[i]?,(pendingOf z)[i+1]?) | unsupported "internal:list.sort.pending"
  set (setPending z (((pendingOf z).setIfInBounds i (p,m+n,pw)).eraseIdxIfInBounds (i+1)))
  let some k <-FG false (<-elem' (arrOf z) q) (arrOf z) p m 0 | return false
  let (p,m):=(p+k,m - k)
  if m == 0 then return true
  let some n <-FG true (<-elem' (arrOf z) (p+m - 1)) (arrOf z) q n (n - 1) | return false
  if n == 0 then return true
  let x:=(arrOf z).extract p q;let y:=(arrOf z).extract q (q+n)
  let r <-if m<=n then Rz x y else RZ x y
  modify λ z=>setArr z (r.toList.zipIdx.foldl (λ a (v,j)=>a.setIfInBounds (p+j) v) (arrOf z))
  return (failedOf (<-get)).isNone):=rfl
theorem IW (p:Nat):∀ (l:List Keyed) (j:Nat) (xs:Array Keyed),p+j+l.length<=xs.size->((l.zipIdx j).foldl (λ a (x:Keyed × Nat)=>a.setIfInBounds (p+x.2) x.1) xs).toList=xs.toList.take (p+j)++l++xs.toList.drop (p+j+l.length)
  | [],j,xs,h=>by simp
  | v::l,j,xs,h=>by
    rw [Ad8] at h;rw [List.zipIdx_cons,Ah2,IW p l (j+1) _ (by rw [Array.size_setIfInBounds];omega),Array.toList_setIfInBounds];have hl:p+j<xs.toList.length:=by simp;omega
    rw [show p+(j+1)=p+j+1 by omega,List.drop_set_of_lt (by omega),Ad8,show p+j+1+l.length=p+j+(l.length+1) by omega];have e:(xs.toList.set (p+j) v).take (p+j+1)=xs.toList.take (p+j)++[v]:=by
      rw [List.take_succ,List.getElem?_set_self (by simpa using hl),List.take_set_of_le (Aa6 _)];rfl
    rw [e,Af1,Af1,Af1];rfl
theorem FW {xs:Array Keyed} {p q i:Nat} (hq:q<=xs.size) (hi:p+i<q):(xs.extract p q).getD i dK=xs.getD (p+i) dK:=by
  rw [Au,Au,Af8];show ((xs.toList.drop p).take (q - p)).getD i dK=_;rw [Aa0,List.getElem?_take,if_pos (by omega),List.getElem?_drop,Aa0]
theorem Gu {xs:Array Keyed} {p q:Nat} (hq:q<=xs.size):(xs.extract p q).size=q - p:=by rw [Array.size_extract,Nat.min_eq_left hq]
theorem Oj {ρ:Keyed->Nat} {xs:Array Keyed} (h:∀ i j,i<j->j<xs.size->ρ (xs.getD i dK)<ρ (xs.getD j dK)):Sd ρ xs.toList:=by
  refine List.pairwise_iff_getElem.mpr λ i j hi hj hij=> ?_;have:=h i j hij (by simpa using hj);rw [Au,Au,Aa0,Aa0,Aa1 hj,Aa1 hi] at this;exact this
theorem Iz {ρ:Keyed->Nat} {xs:Array Keyed} {p c:Nat} (hq:p+c<=xs.size) (R:Rg ρ xs p c):Sd ρ (xs.extract p (p+c)).toList:=Oj λ i j h1 h2=>by
  rw [Gu hq] at h2;rw [FW hq (by omega),FW hq (by omega)];exact R i j h1 (by omega)
theorem M4 {l:List Keyed} {p:Nat} {x:Keyed} (h:x∈l.drop p):∃ i,p+i<l.length/\x=l.getD (p+i) dK:=by
  obtain ⟨i,hi,rfl⟩:=List.mem_iff_getElem.mp h;rw [Ai5] at hi;refine ⟨i,by omega,?_⟩;rw [List.getElem_drop,Aa0,Aa1 (by omega)];rfl
theorem OM {l:List Keyed} {k m c:Nat} (h1:k<=m):l.take k++((l.drop k).take (m - k)++(l.drop m).take c)++l.drop (m+c)=l:=by
  have e2:(l.drop m).take c++l.drop (m+c)=l.drop m:=by rw [<-List.drop_drop,Af5]
  have e1:(l.drop k).take (m - k)++l.drop m=l.drop k:=by
    conv=>lhs;rw [show m=k+(m - k) by omega, <-List.drop_drop,show k+(m - k) - k=m - k by omega]
    rw [Af5]
  rw [Af1,Af1,e2,e1,Af5]
section
variable {prog:Program} {w:World} {A:Around} {E:Value->Shared->Prop} {s:Shared} {κ:SortKind} {D:Keyed->Prop} {ρ:Keyed->Nat} {st:SortSt}
theorem Sf {z:SortSt} {Q:PUnit->SortSt->Prop} (h:Q ⟨⟩ z):wpS (model prog w) A E s (set z:StateT SortSt Sem PUnit) Q st:=by
  unfold wpS;rw [StateT.run_set];exact Aa7 ⟨rfl,h⟩
theorem Si (C:Cmp prog w A E s κ D ρ) (hk:kindOf st=κ) (I:Its D ρ (arrOf st).toList) (hf:failedOf st=none) {m n pw q:Nat} {Q:Bool->SortSt->Prop} (hp:pendingOf st= #[(0,m,pw),(m,n,q)]) (m0:0<m) (n0:0<n) (hs:m+n=(arrOf st).size) (R1:Rg ρ (arrOf st) 0 m) (R2:Rg ρ (arrOf st) m n)
    (h:∀ st',failedOf st'=none->(arrOf st').toList.Perm (arrOf st).toList->Sd ρ (arrOf st').toList->(pendingOf st').size=1->Q true st'):wpS (model prog w) A E s (mergeAt' 0) Q st:=by
  rw [S9];refine wpS_bind (wpS_get ?_);rw [hp];show wpS (model prog w) A E s (do
      set (setPending st ((#[(0,m,pw),(m,n,q)].setIfInBounds 0 (0,m+n,pw)).eraseIdxIfInBounds (0+1)))
      _) Q st
  generalize hz:setPending st ((#[(0,m,pw),(m,n,q)].setIfInBounds 0 (0,m+n,pw)).eraseIdxIfInBounds (0+1))=z;have za:arrOf z=arrOf st:=by rw [<-hz]
  have zk:kindOf z=κ:=by rw [<-hz];exact hk
  have zf:failedOf z=none:=by rw [<-hz];exact hf
  have zp:(pendingOf z).size=1:=by
    rw [<-hz];show (Array.eraseIdxIfInBounds _ _).size=1;simp [Array.eraseIdxIfInBounds]
  clear hz;refine wpS_bind (Sf (wpS_bind (AB (by omega) (wpS_bind (E5 C zk (by omega) m0 (λ i hi=>I.at (by omega)) (I.at (by omega)) (λ i hi=>I.ne (by omega) (by omega) (by omega)) (λ i j h1 h2=>R1 i j h1 h2) λ k km k1 k2=> ?_)))));dsimp only;by_cases c1:m - k=0
  · rw [if_pos (by rw [beq_iff_eq];exact c1)];refine wpS_pure (h z zf (by rw [za]) ?_ zp);rw [za];refine Oj λ i j h1 h2=> ?_;rcases Ad4 j m with y | y
    · have:=R1 i j h1 y;simpa using this
    · rcases Ad4 i m with x | x
      · have a1:=k1 i (by omega);rw [Nat.zero_add] at a1;rcases Nat.eq_or_lt_of_le y with e | e
        · rw [<-e];exact a1
        · have:=R2 0 (j - m) (by omega) (by omega);rw [Nat.add_zero,show m+(j - m)=j by omega] at this;exact Ae6 a1 this
      · have:=R2 (i - m) (j - m) (by omega) (by omega);rw [show m+(i - m)=i by omega,show m+(j - m)=j by omega] at this;exact this
  rw [if_neg (by rw [beq_iff_eq];exact c1)];rw [show 0+k+(m - k) - 1=m - 1 by omega,show 0+k=k by omega];simp only [Nat.zero_add] at k1 k2;refine wpS_bind (AB (by omega) (wpS_bind (E5 C zk (by omega) (by omega) (λ i hi=>I.at (by omega)) (I.at (by omega)) (λ i hi=>I.ne (by omega) (by omega) (by omega)) (λ i j h1 h2=>R2 i j h1 h2) λ t tn t1 t2=> ?_)));dsimp only;have hmk:=k2 (m - 1) (by omega) (by omega);have tp:0<t:=by
    rcases Nat.eq_zero_or_pos t with e | e
    · have:=t2 0 (by omega) n0;rw [Nat.add_zero] at this;omega
    · exact e
  rw [if_neg (by rw [beq_iff_eq];omega)];have T:Two D ρ ((arrOf st).extract k m) ((arrOf st).extract m (m+t)):=by
    have ea:∀ i,i<m - k->((arrOf st).extract k m).getD i dK=(arrOf st).getD (k+i) dK:=λ i hi=>FW (by omega) (by omega);have eb:∀ i,i<t->((arrOf st).extract m (m+t)).getD i dK=(arrOf st).getD (m+i) dK:=λ i hi=>FW (by omega) (by omega);have za:((arrOf st).extract k m).size=m - k:=Gu (by omega);have zb:((arrOf st).extract m (m+t)).size=t:=by rw [Gu (by omega)];omega
    refine ⟨λ i hi=> ?_,λ i hi=> ?_,?_,Iz (by omega) λ i j h1 h2=>R2 i j h1 (by omega),λ i j hi hj=> ?_,by omega,by omega,?_,?_⟩
    · rw [za] at hi;rw [ea i hi];exact I.at (by omega)
    · rw [zb] at hi;rw [eb i hi];exact I.at (by omega)
    · have:=Iz (ρ:=ρ) (xs:=arrOf st) (p:=k) (c:=m - k) (by omega) λ i j h1 h2=>by
        have:=R1 (k+i) (k+j) (by omega) (by omega);simpa using this
      rw [show k+(m - k)=m by omega] at this;exact this
    · rw [za] at hi;rw [zb] at hj;rw [ea i hi,eb j hj];exact I.ne (by omega) (by omega) (by omega)
    · rw [ea 0 (by omega),eb 0 tp];exact k2 k (Aa6 _) (by omega)
    · rw [za,zb,ea _ (by omega),eb _ (by omega),show k+(m - k - 1)=m - 1 by omega];exact t1 (t - 1) (by omega)
  have fin:∀ r z',SS z z'->FA ρ ((arrOf st).extract k m) ((arrOf st).extract m (m+t)) r->wpS (model prog w) A E s (do
      modify λ z=>setArr z (r.toList.zipIdx.foldl (λ a (x:Keyed × Nat)=>a.setIfInBounds (k+x.2) x.1) (arrOf z))
      let y <-get
      pure (failedOf y).isNone) Q z':=λ r z' sz ⟨pm,so⟩=>by
    have ex:((arrOf st).extract k m).toList=((arrOf st).toList.drop k).take (m - k):=by rw [Af8];all_goals rfl
    have ey:((arrOf st).extract m (m+t)).toList=((arrOf st).toList.drop m).take t:=by
      rw [Af8];show ((arrOf st).toList.drop m).take (m+t - m)=_;rw [show m+t - m=t by omega]
    have rl:r.toList.length=m - k+t:=by
      rw [pm.length_eq,Ab0,ex,ey,Ag8,Ag8,Ai5,Ai5];have:(arrOf st).toList.length=m+n:=by simp;omega
      omega
    have ze:arrOf z'=arrOf st:=sz.a.trans za;refine wpS_bind (wpS_modify (wpS_bind (wpS_get (wpS_pure ?_))));have ff:(failedOf z').isNone=true:=by rw [sz.f,zf];rfl
    show Q (failedOf z').isNone _;rw [ff];have et:=IW k r.toList 0 (arrOf z') (by rw [ze];omega);rw [ze,Nat.add_zero,rl,show k+(m - k+t)=m+t by omega] at et;have el:(arrOf st).toList.length=m+n:=by simp;omega
    rw [ex,ey] at pm;have inx:∀ {v:Keyed},v∈r.toList->(∃ i,k<=i/\i<m/\v=(arrOf st).getD i dK)\/∃ i,i<t/\v=(arrOf st).getD (m+i) dK:=λ {v} hv=>by
      rcases Ac4.mp (pm.mem_iff.mp hv) with y | y
      · obtain ⟨i,hi,rfl⟩:=By (by omega) y;exact .inl ⟨k+i,by omega,by omega,by rw [Au]⟩
      · obtain ⟨i,hi,rfl⟩:=By (by omega) y;exact .inr ⟨i,hi,by rw [Au]⟩
    have inl:∀ {u:Keyed},u∈(arrOf st).toList.take k->∃ i,i<k/\u=(arrOf st).getD i dK:=λ {u} hu=>by
      have hu:u∈((arrOf st).toList.drop 0).take k:=by rw [List.drop_zero];exact hu
      obtain ⟨i,hi,rfl⟩:=By (by omega) hu;exact ⟨i,hi,by rw [Au,Nat.zero_add]⟩
    have ind:∀ {v:Keyed},v∈(arrOf st).toList.drop (m+t)->∃ i,t<=i/\i<n/\v=(arrOf st).getD (m+i) dK:=λ {v} hv=>by
      obtain ⟨i,hi,rfl⟩:=M4 hv;exact ⟨t+i,by omega,by omega,by rw [Au,show m+(t+i)=m+t+i by omega]⟩
    have R1':∀ {i j},i<j->j<m->ρ ((arrOf st).getD i dK)<ρ ((arrOf st).getD j dK):=λ {i j} a b=>by have:=R1 i j a b;simpa using this
    refine h _ (show failedOf z'=none from sz.f.trans zf) ?_ ?_ (by show (pendingOf z').size=1;rw [sz.p];exact zp)
    · show ((r.toList.zipIdx).foldl (λ a (x:Keyed × Nat)=>a.setIfInBounds (k+x.2) x.1) (arrOf z')).toList.Perm _;rw [ze,et]
      conv=>rhs;rw [<-OM (l:=(arrOf st).toList) (k:=k) (m:=m) (c:=t) (by omega)]
      exact (pm.append_left _).append_right _
    · show Sd ρ ((r.toList.zipIdx).foldl (λ a (x:Keyed × Nat)=>a.setIfInBounds (k+x.2) x.1) (arrOf z')).toList;rw [ze,et];have S1:Sd ρ ((arrOf st).toList.take k):=by
        have:=Iz (ρ:=ρ) (xs:=arrOf st) (p:=0) (c:=k) (by omega) λ i j h1 h2=>R1 i j h1 (by omega);rw [Af8] at this;have:Sd ρ (((arrOf st).toList.drop 0).take (0+k - 0)):=this;rw [List.drop_zero,show 0+k - 0=k by omega] at this;exact this
      have S3:Sd ρ ((arrOf st).toList.drop (m+t)):=by
        have:=Iz (ρ:=ρ) (xs:=arrOf st) (p:=m) (c:=n) (by omega) R2;rw [Af8] at this;have:Sd ρ (((arrOf st).toList.drop m).take (m+n - m)):=this;rw [Ah7 (by rw [Ai5];omega)] at this;rw [<-List.drop_drop];exact List.Pairwise.sublist (List.drop_sublist _ _) this
      refine Ah6.mpr ⟨Ah6.mpr ⟨S1,so,λ u hu v hv=> ?_⟩,S3,λ u hu v hv=> ?_⟩
      · obtain ⟨i,hi,rfl⟩:=inl hu;rcases inx hv with ⟨j,j1,j2,rfl⟩ | ⟨j,j1,rfl⟩
        · exact R1' (by omega) j2
        · have a1:=k1 i hi;rcases Nat.eq_zero_or_pos j with rfl | e
          · exact a1
          · exact Ae6 a1 (R2 0 j e (by omega))
      · obtain ⟨j,j1,j2,rfl⟩:=ind hv;have b1:=t2 j j1 j2;have low:∀ i,i<m->ρ ((arrOf st).getD i dK)<ρ ((arrOf st).getD (m+j) dK):=λ i hi=>by
          rcases Ad4 i (m - 1) with e | e
          · exact Ae6 (R1' e (by omega)) b1
          · rw [show i=m - 1 by omega];exact b1
        rcases Ac4.mp hu with y | y
        · obtain ⟨i,hi,rfl⟩:=inl y;exact low i (by omega)
        · rcases inx y with ⟨i,i1,i2,rfl⟩ | ⟨i,i1,rfl⟩
          · exact low i i2
          · exact R2 i j (by omega) j2
  by_cases c3:m - k<=t
  · rw [if_pos c3];exact wpS_bind (Sn C T zk λ r z' sz f=>fin r z' sz f)
  · rw [if_neg c3];exact wpS_bind (RI C T zk λ r z' sz f=>fin r z' sz f)
theorem O5 {N:Nat} (h1:64<=N) (h2:N<128):minRun' N N 0=N / 2+N%2:=by
  obtain ⟨f,rfl⟩:∃ f,N=f+1+1:=⟨N - 2,by omega⟩;rw [minRun'_succ,if_neg (by omega),minRun'_succ,if_pos (by omega)];omega
structure Bs (κ:SortKind) (st st':SortSt):Prop where
  k:kindOf st'=κ
  f:failedOf st'=none
  pm:(arrOf st').Perm (arrOf st)
theorem Bs.mv {st st1 st2:SortSt} {lo r:Nat} (h:Bs κ st st1) (v:Mv st1 st2 lo r):Bs κ st st2:=⟨v.k.trans h.k,v.f.trans h.f,v.pm.trans h.pm⟩
theorem Bs.its {st st':SortSt} (h:Bs κ st st') (I:Its D ρ (arrOf st).toList):Its D ρ (arrOf st').toList:=I.perm h.pm.toList
theorem Bs.size {st st':SortSt} (h:Bs κ st st'):(arrOf st').size=(arrOf st).size:=h.pm.size_eq
def Wt (ρ:Keyed->Nat) (N:Nat) (st':SortSt):Prop:=∃ m pw,pendingOf st'= #[(0,m,pw),(m,N - m,0)]/\0<m/\m<N/\Rg ρ (arrOf st') 0 m/\Rg ρ (arrOf st') m (N - m)
def On (ρ:Keyed->Nat) (N:Nat) (st':SortSt):Prop:=(pendingOf st').size=1/\Rg ρ (arrOf st') 0 N
theorem RC {xs ys:Array Keyed} {lo m:Nat} (h:∀ i,i<lo+m->ys.getD i dK=xs.getD i dK) (R:Rg ρ xs lo m):Rg ρ ys lo m:=λ i j h1 h2=>by
  rw [h _ (by omega),h _ (by omega)];exact R i j h1 h2
theorem Pf (C:Cmp prog w A E s κ D ρ) (hk:kindOf st=κ) (I:Its D ρ (arrOf st).toList) (hf:failedOf st=none) {Q:Unit->SortSt->Prop} (hp:pendingOf st= #[]) (h1:64<=(arrOf st).size) (h2:(arrOf st).size<128)
    (h:∀ st',failedOf st'=none->(arrOf st').toList.Perm (arrOf st).toList->Sd ρ (arrOf st').toList->Q () st'):wpS (model prog w) A E s sortRuns' Q st:=by
  rw [sortRuns'_eq];refine wpS_bind (wpS_get ?_);dsimp only;have B0:Bs κ st st:=⟨hk,hf, .refl _⟩;generalize hN:(arrOf st).size=N at h1 h2 ⊢;rw [O5 h1 h2];generalize hr:N / 2+N%2=r;have r1:1<=r/\r<=N/\N<=2*r:=by omega
  refine wpS_bind (wpS_mono (wpS_forRange (I:=λ x c st'=>(x=0/\c=(none,0)/\st'=st)\/(x=1/\∃ m,c=(none,m)/\r<=m/\m<=N/\Bs κ st st'/\pendingOf st'= #[(0,m,0)]/\Rg ρ (arrOf st') 0 m)\/(2<=x/\c=(none,N)/\Bs κ st st'/\Wt ρ N st')) (Q:=λ c st'=>c=(none,N)/\Bs κ st st'/\(On ρ N st'\/Wt ρ N st')) ?_ ?_ (.inl ⟨rfl,rfl,rfl⟩)) ?_)
  · rintro x _ st1 _ hx (⟨rfl,rfl,rfl⟩ | ⟨rfl,m,rfl,rm,mN,B1,hp1,R1⟩ | ⟨x2,rfl,B1,W⟩)
    · dsimp only;rw [if_neg (by omega)];refine wpS_bind (IP C hk I (by omega) (by omega) λ m st2 m1 mN v2 R2=> ?_);have B2:=B0.mv v2;have s2:=B2.size;dsimp only;by_cases c:m<r
      · rw [if_pos c];refine wpS_bind (wpS_lift (wpAny_rule ⟨rfl,?_⟩));refine wpS_bind (Om C B2.k (B2.its I) (by omega) m1 (by omega) R2 λ st3 v3 R3=> ?_);have B3:=B2.mv v3;rw [if_neg (by decide)];refine wpS_bind (wpS_get ?_);have hp3:pendingOf st3= #[]:=v3.p.trans (v2.p.trans hp);rw [hp3];refine wpS_bind (wpS_modify (wpS_pure (.inr (.inl ⟨rfl,_,rfl,by omega,by omega,⟨B3.k,B3.f,B3.pm⟩,?_,?_⟩))))
        · show (pendingOf st3).push _=_;rw [hp3];show #[(0,min (N - 0) r,0)]= #[(0,0+min (N - 0) r,0)];rw [Nat.zero_add]
        · show Rg ρ (arrOf st3) 0 (0+min (N - 0) r);rw [Nat.zero_add];exact R3
      · rw [if_neg c];refine wpS_bind (wpS_get ?_);have hp3:pendingOf st2= #[]:=v2.p.trans hp;rw [hp3];refine wpS_bind (wpS_modify (wpS_pure (.inr (.inl ⟨rfl,_,rfl,by omega,by omega,⟨B2.k,B2.f,B2.pm⟩,?_,?_⟩))))
        · show (pendingOf st2).push _=_;rw [hp3];show #[(0,m,0)]= #[(0,0+m,0)];rw [Nat.zero_add]
        · show Rg ρ (arrOf st2) 0 (0+m);rw [Nat.zero_add];exact R2
    · dsimp only;have sz1:=B1.size;by_cases c0:m>=N
      · rw [if_pos c0];have e:m=N:=by omega
        subst e;exact wpS_pure ⟨rfl,B1, .inl ⟨by rw [hp1];rfl,R1⟩⟩
      rw [if_neg c0];have tail:∀ (st3:SortSt) (n:Nat),n=N - m->Mv st1 st3 m (N - m)->Rg ρ (arrOf st3) m n->(pendingOf st3= #[(0,m,0)]/\Bs κ st st3/\Rg ρ (arrOf st3) 0 m/\Rg ρ (arrOf st3) m (N - m)):=λ st3 n e v R=>⟨v.p.trans hp1,B1.mv v,RC (λ i hi=>v.out i (.inl (by omega))) R1,e▸R⟩;refine wpS_bind (IP C B1.k (B1.its I) (by omega) (by omega) λ n st2 n1 nN v2 R2=> ?_);have B2:=B1.mv v2;have s2:=B2.size;dsimp only;by_cases c:n<r
      · rw [if_pos c];refine wpS_bind (wpS_lift (wpAny_rule ⟨rfl,?_⟩));have em:min (N - m) r=N - m:=by omega
        rw [em];refine wpS_bind (Om C B2.k (B2.its I) (by omega) n1 (by omega) R2 λ st3 v3 R3=> ?_);obtain ⟨hp3,B3,S1,S2⟩:=tail st3 (N - m) rfl (v2.trans v3) R3;rw [if_neg (by decide)];refine wpS_bind (wpS_get ?_);rw [hp3];rw [show (#[(0,m,0)]:Array (Nat × Nat × Nat)).back?=some (0,m,0) from rfl];dsimp only;refine wpS_bind (wpS_mono (wpS_forRange (I:=λ _ c st'=>c=(none,())/\st'=st3) (Q:=λ c st'=>c=(none,())/\st'=st3) ?_ (λ _ _ q=>q) ⟨rfl,rfl⟩) ?_)
        · rintro x _ st3 _ _ ⟨rfl,rfl⟩;refine wpS_bind (wpS_get ?_);rw [if_neg (by rw [hp3];show ¬ 1>1;decide)];exact wpS_pure ⟨rfl,rfl⟩
        · rintro _ st3 ⟨rfl,rfl⟩;refine wpS_bind (wpS_modify (wpS_bind (wpS_modify (wpS_pure (.inr (.inr ⟨Aa6 _,by rw [show m+(N - m)=N by omega],⟨B3.k,B3.f,B3.pm⟩,m,power' N (2*0+m) (2*0+m+m+(N - m)) N,?_,by omega,by omega,S1,S2⟩))))));show ((pendingOf st3).modify ((pendingOf st3).size - 1) _).push _=_;rw [hp3];rfl
      · rw [if_neg c];have en:n=N - m:=by omega
        obtain ⟨hp3,B3,S1,S2⟩:=tail st2 n en v2 R2;refine wpS_bind (wpS_get ?_);rw [hp3];rw [show (#[(0,m,0)]:Array (Nat × Nat × Nat)).back?=some (0,m,0) from rfl];dsimp only;refine wpS_bind (wpS_mono (wpS_forRange (I:=λ _ c st'=>c=(none,())/\st'=st2) (Q:=λ c st'=>c=(none,())/\st'=st2) ?_ (λ _ _ q=>q) ⟨rfl,rfl⟩) ?_)
        · rintro x _ st2 _ _ ⟨rfl,rfl⟩;refine wpS_bind (wpS_get ?_);rw [if_neg (by rw [hp3];show ¬ 1>1;decide)];exact wpS_pure ⟨rfl,rfl⟩
        · rintro _ st2 ⟨rfl,rfl⟩;refine wpS_bind (wpS_modify (wpS_bind (wpS_modify (wpS_pure (.inr (.inr ⟨Aa6 _,by rw [show m+n=N by omega],⟨B3.k,B3.f,B3.pm⟩,m,power' N (2*0+m) (2*0+m+m+n) N,?_,by omega,by omega,S1,S2⟩))))));show ((pendingOf st2).modify ((pendingOf st2).size - 1) _).push _=_;rw [hp3];rw [en];rfl
    · dsimp only;rw [if_pos (Aa6 _)];exact wpS_pure ⟨rfl,B1, .inr W⟩
  · rintro _ st1 (⟨x0,_⟩ | ⟨x0,_⟩ | ⟨x2,rfl,B1,W⟩)
    · omega
    · omega
    · exact ⟨rfl,B1, .inr W⟩
  · rintro _ st1 ⟨rfl,B1,OW⟩;have sz:=B1.size;refine wpS_bind (wpS_mono (wpS_forRange (I:=λ x c st'=>c=(none,())/\((failedOf st'=none/\(arrOf st').toList.Perm (arrOf st).toList/\Sd ρ (arrOf st').toList/\(pendingOf st').size=1)\/(x=0/\st'=st1/\Wt ρ N st1))) (Q:=λ c st'=>c=(none,())/\failedOf st'=none/\(arrOf st').toList.Perm (arrOf st).toList/\Sd ρ (arrOf st').toList) ?_ ?_ ⟨rfl,?_⟩) ?_)
    · rintro x _ st2 _ hx ⟨rfl,(⟨f2,p2,S2,z2⟩ | ⟨rfl,rfl,m,pw,hp2,m0,mN,R1,R2⟩)⟩
      · refine wpS_bind (wpS_get ?_);rw [if_pos (by omega)];exact wpS_pure ⟨rfl,f2,p2,S2⟩
      · refine wpS_bind (wpS_get ?_);rw [hp2,if_neg (show ¬ (#[(0,m,pw),(m,N - m,0)]:Array (Nat × Nat × Nat)).size<=1 from (by show ¬ 2<=1;decide))];refine wpS_bind (Si C B1.k (B1.its I) B1.f hp2 m0 (by omega) (by omega) R1 R2 λ st3 f3 p3 S3 z3=> ?_);rw [if_neg (by decide)];exact wpS_pure ⟨rfl, .inl ⟨f3,p3.trans B1.pm.toList,S3,z3⟩⟩
    · rintro _ st2 ⟨rfl,(⟨f2,p2,S2,z2⟩ | ⟨x0,_⟩)⟩
      · exact ⟨rfl,f2,p2,S2⟩
      · omega
    · rcases OW with ⟨z1,R1⟩ | W
      · refine .inl ⟨B1.f,B1.pm.toList,Oj λ i j a b=> ?_,z1⟩;have:=R1 i j a (by omega);simpa using this
      · exact .inr ⟨rfl,rfl,W⟩
    · rintro _ st2 ⟨rfl,f2,p2,S2⟩;exact wpS_pure (h st2 f2 p2 S2)
end
end TS
namespace TS
open PySem PyProof.Rows PySem.W
variable {prog:Program} {w:World} {A:Around} {E:Value->Shared->Prop} {s:Shared}
abbrev itV (vs:List Value) (i:Nat):Keyed:=(vs.getD i Value.none,vs.getD i Value.none)
open Classical in
def ixV (vs:List Value) (x:Keyed):Nat:=if h:∃ i,i<vs.length/\x=itV vs i then choose h else 0
theorem Fj {vs:List Value} (nd:∀ i j,i<vs.length->j<vs.length->vs.getD i Value.none=vs.getD j Value.none->i=j) {i:Nat} (hi:i<vs.length):ixV vs (itV vs i)=i:=by
  have h:∃ j,j<vs.length/\itV vs i=itV vs j:=⟨i,hi,rfl⟩;unfold ixV;rw [dif_pos h];have q:=Classical.choose_spec h;exact (nd _ _ hi q.1 (congrArg Prod.fst q.2)).symm
theorem Nw {κ:SortKind} {vs:List Value} {r:Nat->Nat} (h1:64<=vs.length) (h2:vs.length<128) (nd:∀ i j,i<vs.length->j<vs.length->vs.getD i Value.none=vs.getD j Value.none->i=j) (inj:MSort.Inj r vs.length)
    (hl:∀ i j,i<vs.length->j<vs.length->∀ C:Bool->Shared->Prop,C (decide (r i<r j)) s->kas_ask prog w A κ vs i j C s):
    wpAny (model prog w) A ((sortRuns').run (SortSt.mk' κ (vs.toArray.zip vs.toArray) #[] 7 none)) (λ q s'=>s'=s/\∃ p:Array Nat,MSort.Ok vs.length p/\MSort.Up r p vs.length/\arrOf q.2=p.map (kas_item (vs.toArray.zip vs.toArray))/\failedOf q.2=none) E s:=by
  have zl:(vs.toArray.zip vs.toArray).toList=(Aa5 vs.length).map (itV vs):=by
    rw [Array.toList_zip];refine Ag0 (by simp) λ i g1 g2=> ?_;have hi:i<vs.length:=by simpa using g2
    rw [List.getElem_zip,List.getElem_map,List.getElem_range];unfold itV;rw [Aa0,Aa1 hi];rfl
  have C:Cmp prog w A E s κ (λ x=>∃ i,i<vs.length/\x=itV vs i) (λ x=>r (ixV vs x)):=⟨λ st x y Q hk ⟨i,hi,ex⟩ ⟨j,hj,ey⟩ q=>by
      subst ex ey;rw [Fj nd hi,Fj nd hj] at q;rw [lt'_eq];refine wpS_bind (wpS_get (wpS_bind (wpS_lift (wpAny_attempt ?_))));rw [hk];refine Ag6 (hl i j hi hj (λ b s'=>s'=s/\b=decide (r i<r j)) ⟨rfl,rfl⟩) (λ b s' hb=> ?_) λ _ _ z=>z.elim;obtain ⟨rfl,rfl⟩:=hb;exact ⟨rfl,wpS_pure q⟩,λ x y ⟨i,hi,ex⟩ ⟨j,hj,ey⟩ e=>by
      subst ex ey;rw [Fj nd hi,Fj nd hj] at e;rw [inj i j hi hj e]⟩
  have I:Its (λ x=>∃ i,i<vs.length/\x=itV vs i) (λ x=>r (ixV vs x)) (vs.toArray.zip vs.toArray).toList:=by
    rw [zl];refine ⟨λ x hx=> ?_,?_⟩
    · obtain ⟨i,hi,rfl⟩:=Ab2.mp hx;exact ⟨i,Ac0.mp hi,rfl⟩
    · rw [List.pairwise_map];refine List.Pairwise.imp_of_mem (λ {i j} hi hj hij e=> ?_) (Ak0 (n:=vs.length));rw [Fj nd (Ac0.mp hi),Fj nd (Ac0.mp hj)] at e;have:=inj i j (Ac0.mp hi) (Ac0.mp hj) e;omega
  have sz:(vs.toArray.zip vs.toArray).size=vs.length:=by simp
  have run:=Pf (st:=SortSt.mk' κ (vs.toArray.zip vs.toArray) #[] 7 none) (Q:=λ _ st'=>∃ p:Array Nat,MSort.Ok vs.length p/\MSort.Up r p vs.length/\arrOf st'=p.map (kas_item (vs.toArray.zip vs.toArray))/\failedOf st'=none) C rfl I rfl rfl (by show 64<=(vs.toArray.zip vs.toArray).size;omega) (by show (vs.toArray.zip vs.toArray).size<128;omega) (λ st' f pm so=> ?_)
  · exact run
  have pm:(arrOf st').toList.Perm ((Aa5 vs.length).map (itV vs)):=by rw [<-zl];exact pm
  have mem:∀ x∈(arrOf st').toList,ixV vs x<vs.length/\x=itV vs (ixV vs x):=λ x hx=>by
    obtain ⟨i,hi,rfl⟩:=Ab2.mp (pm.mem_iff.mp hx);rw [Fj nd (Ac0.mp hi)];exact ⟨Ac0.mp hi,rfl⟩
  have psz:((arrOf st').map (ixV vs)).size=vs.length:=by
    rw [Array.size_map, <-Ad2,pm.length_eq,Aa2,Ad7]
  have pg:∀ i,i<vs.length->((arrOf st').map (ixV vs)).getD i 0=ixV vs ((arrOf st').getD i dK):=λ i hi=>by
    have hi':i<(arrOf st').size:=by rw [Array.size_map] at psz;omega
    simp [Array.getD,hi']
  refine ⟨(arrOf st').map (ixV vs),⟨psz,?_⟩,λ i j a b=> ?_,?_,f⟩
  · rw [Array.toList_map];refine (pm.map _).trans (List.Perm.of_eq ?_);rw [Ac8]
    conv=>rhs;rw [<-List.map_id (Aa5 vs.length)]
    exact Af6 λ i hi=>Fj nd (Ac0.mp hi)
  · unfold MSort.K;rw [pg i (by omega),pg j b];exact CS so a (by rw [Array.size_map] at psz;omega)
  · apply Array.toList_inj.mp;rw [Array.map_map,Array.toList_map]
    conv=>lhs;rw [<-List.map_id (arrOf st').toList]
    refine Af6 λ x hx=> ?_;show x=kas_item (vs.toArray.zip vs.toArray) (ixV vs x);rw [kat_item rfl];exact (mem x hx).2
theorem sort_any {a:Addr} {vs:List Value} {n:Nat} {P:PySem.Fin->Shared->Prop} (G:List Value->Prop) (ho:s.heap.get? a=some (seqObj "list" vs.toArray n)) (h128:vs.length<128) (h1:vs.length<2->G vs)
    (h2:2<=vs.length->∀ h',(∀ b o,b≠a->s.heap.get? b=some o->h'.get? b=some o)->∃ (κ:SortKind) (r:Nat->Nat),MSort.Inj r vs.length/\(∀ i j,i<vs.length->j<vs.length->vs.getD i Value.none=vs.getD j Value.none->i=j)/\
      (∀ Q:SortKind->Shared->Prop,Q κ { s with heap:=h' }->wpAny (model prog w) A (keyKind' vs.toArray) Q (λ _ _=>False) { s with heap:=h' })/\
      (∀ i j,i<vs.length->j<vs.length->∀ C:Bool->Shared->Prop,C (decide (r i<r j)) { s with heap:=h' }->kas_ask prog w A κ vs i j C { s with heap:=h' })/\
      ∀ p:Array Nat,MSort.Ok vs.length p->MSort.Up r p vs.length->G (p.toList.map λ i=>vs.getD i Value.none))
    (h:∀ out,G out->out.length=vs.length->P (.done (.ret .none)) { s with heap:=sortedHeap s.heap a vs out.toArray }):wpAny (model prog w) A (Builtin.«list.sort» ⟨[.ref a],[]⟩) P E s:=by
  rcases Ad4 vs.length 64 with h64 | h64
  · refine HT.sort_shell G ho h64 h1 (λ c h' k'=> ?_) h;obtain ⟨κ,r,inj,nd,hk,hl,hg⟩:=h2 c h' k';refine hk _ ?_;have run:=HT.kas_pure (prog:=prog) (w:=w) (A:=A) (s:=({ s with heap:=h' }:Shared)) (vs:=vs) (κ:=κ) (lt:=MSort.L r) (n:=vs.length) hl _ (MSort.sort inj (by omega));exact HT.kas_mono run λ p' s' hq=>⟨hq.1,hg p' hq.2.1 hq.2.2⟩
  · have ha:a<s.heap.objs.size:=Aa9 ho;obtain ⟨e1,ho1⟩:∃ e1,(s.heap.update a (Obj.mapSeq λ _=>(#[]:Array Value))).get? a=some (seqObj "list" #[] e1):=⟨_,get?_update_seq ho λ _=> #[]⟩;have ho6:(((s.heap.update a (Obj.mapSeq λ _=>(#[]:Array Value))).push (seqObj "tuple" vs.toArray 0)).push (seqObj "list" #[] 0)).get? a=some (seqObj "list" #[] e1):=Aa4 _ (Aa4 _ ho1);have line:∀ k,k<128->k<=sizeLine+1:=λ k hk=>by rw [sizeLine_eq];omega
    rw [list_sort_plain];refine Aa3 (listItems_at ho rfl (Aa3 (listUpdate_at ho rfl ?_ (by rw [Ab8,sizeLine_eq];omega) (Ad3 _))));refine Aa3 (seqEpoch_at ho1 rfl (Aa3 (wpAny_newTuple ?_ (by show vs.length<=_;rw [sizeLine_eq];omega))));refine Aa3 (wpAny_newList (Ah9 ?_) (Ad3 _));show wpAny (model prog w) A _ P E { s with heap:=((s.heap.update a (Obj.mapSeq λ _=> #[])).push (seqObj "tuple" vs.toArray 0)).push (seqObj "list" #[] 0) };dsimp only;have c:¬ vs.toArray.size<2:=by simp;omega
    rw [if_neg c,if_neg c];obtain ⟨κ,r,inj,nd,hk,hl,hg⟩:=h2 (by omega) _ (λ b o nb e=>show (((s.heap.update a (Obj.mapSeq λ _=>(#[]:Array Value))).push (seqObj "tuple" vs.toArray 0)).push (seqObj "list" #[] 0)).get? b=some o from
      Aa4 _ (Aa4 _ ((Af7 _ _ (Ne.symm nb)).trans e)))
    refine Aa3 (Ag6 (hk (λ κ' s0=>κ'=κ/\s0={ s with heap:=((s.heap.update a (Obj.mapSeq λ _=>(#[]:Array Value))).push (seqObj "tuple" vs.toArray 0)).push (seqObj "list" #[] 0) }) ⟨rfl,rfl⟩) (λ κ' s0 hkk=> ?_) λ _ _ x=>x.elim);obtain ⟨rfl,rfl⟩:=hkk;refine Aa3 (Ag6 (Nw h64 h128 nd inj hl) ?_ λ _ _ e=>e);rintro ⟨⟨⟩,st'⟩ s' ⟨rfl,p,ok,up,har,hf⟩;dsimp only at har hf ⊢;have hsz:(List.toArray (p.toList.map λ i=>vs.getD i Value.none)).size=vs.length:=by rw [Ab8,Aa2,Ad2,ok.size]
    rw [kat_snds rfl har];refine Aa3 (seqEpoch_at ho6 rfl (Aa3 (listUpdate_at ho6 rfl ?_ (Ad3 _) (by rw [hsz];exact line _ h128))));rw [hf];simp only [bne_self_eq_false,Ab9,if_false];exact Aa7 (h _ (hg p ok up) (by rw [Aa2,Ad2,ok.size]))
end TS
namespace L2
open PySem PySem.Spec PyProof.Rows PySem.W
def M8:List V->Hp->VK->Prop:=λ xs H Q=>∃ (p:Addr) (kvs:List (List Key × V)) (rk:List Key->Nat),xs=[.ref p]/\H p=some (.dT kvs)/\kvs.length<128/\LexOk rk (kvs.map (·.1))/\
  ∀ (l:Addr) (bs:List Addr) (ms:List (List Key)),H l=none->ms.Perm (kvs.map (·.1))->ms.Pairwise (λ a b=>rk a<rk b)->bs.length=ms.length->(∀ i,i<ms.length->H (bs.getD i 0)=some (.tup ((ms.getD i []).map kV)))->Q (.ref l) (upd H l (.lst (bs.map V.ref)))
theorem Mm {X:Cx} (hc:X.calm=true):Bh X (.builtin "sorted") M8:=by
  intro pins s σ H xs us Q I r h;obtain ⟨p,kvs,rk,rfl,hp,hl,lx,q⟩:=h;obtain ⟨u,rfl,rx⟩:=Ds r;cases rx;obtain ⟨hz,hs,ys,kt,o,es,ep,ho,hx,hd,hes, -,hnd⟩:=LM I.hok hp;have hlen:ys.length=kvs.length:=(Paired.length kt).symm;have hsz:es.size=kvs.length:=by rw [<-Ad2,hes,Aa2,hlen]
  have hkk:ys.map (·.1)=kvs.map (·.1):=by
    apply List.ext_getElem?;intro i;rw [Aa8,Aa8];rcases Ad4 i kvs.length with hi | hi
    · rw [Aa1 hi,Aa1 (hlen▸hi)];have:=E7 kt i _ _ (Aa1 hi) (Aa1 (hlen▸hi));simp only [Ae9];rw [this.1]
    · rw [Ah3 hi,Ah3 (hlen▸hi)];rfl
  refine Calls.call_function_entry kind_sorted plain_sorted entry_sorted (args_sorted1 _) ?_;show wpAny _ _ (checkCount "sorted" 1 1 1 >>= λ _=>collect (.ref p) >>= λ xs=>newList xs >>= λ l=>holding [l] (call (.builtin "list.sort") [l] []) >>= λ _=>ret l) _ _ _;rw [ED];refine Aa3 (Aa7 ?_);refine Aa3 (kdu_collect (A:=X.A.in1) (HT.raw_src (es:=es) (ep:=ep) hs) (I.ok.hd hc) ⟨o,ho,hx,hd⟩ (by rw [hsz,sizeLine_eq];omega) λ h1 tk acc k1 hacc=> ?_);have I1:=I.kept (t':=tk) k1;have hvs:acc.toList=(ys.map (·.2.1)).map Value.ref:=by
    apply List.ext_getElem?;intro i;rw [Aa8,Aa8];rcases Ad4 i kvs.length with hi | hi
    · have ha:i<acc.size:=by rw [hacc.1,hsz];exact hi
      obtain ⟨e,he,hv⟩:=hacc.2 i acc[i] (Array.getElem?_eq_getElem ha);rw [<-Ai1,hes,Aa8,Aa1 (hlen▸hi)] at he;have he':=(Ae7.inj he).symm;rw [Ai1,Array.getElem?_eq_getElem ha,hv,Aa1 (hlen▸hi),he'];rfl
    · rw [Ah3 (show acc.toList.length<=i by rw [Ad2,hacc.1,hsz];exact hi),Ah3 (show ys.length<=i by omega)];rfl
  rw [hvs];generalize hbs:ys.map (·.2.1)=bs;have hbl:bs.length=kvs.length:=by rw [<-hbs,Aa2,hlen]
  have hbt:∀ i,i<kvs.length->H (bs.getD i 0)=some (.tup (((kvs.map (·.1)).getD i []).map kV)):=by
    intro i hi;have:=(E7 kt i _ _ (Aa1 hi) (Aa1 (hlen▸hi))).2.1;rw [<-hbs,Aa0,Aa8,Aa1 (hlen▸hi),Aa0,Aa8,Aa1 hi];exact this
  have hkl:(kvs.map (·.1)).length=kvs.length:=Aa2 ..;generalize hks:kvs.map (·.1)=ks at*;have hvl:(bs.map Value.ref).length=kvs.length:=by rw [Aa2,hbl]
  refine Aa3 (wpAny_newList ?_ ?_)
  · refine Aa3 (Ah9 ?_);have hg:(h1.push { cls:=Value.type "list",data:=Data.seq (bs.map Value.ref).toArray }).get? h1.objs.size=some (seqObj "list" (bs.map Value.ref).toArray 0):=Ab3 _ rfl;refine Ag1 slot_list_sort ⟨_,hg,rfl⟩ entry_list_sort ?_ (args_list_sort _);refine TS.sort_any (λ out=>∃ (cs:List Addr) (ms:List (List Key)),out=cs.map Value.ref/\ms.Perm ks/\ms.Pairwise (λ a b=>rk a<rk b)/\cs.length=ms.length/\∀ i,i<ms.length->H (cs.getD i 0)=some (.tup ((ms.getD i []).map kV))) hg (by rw [hvl];exact hl) (λ c=> ?_) (λ c h' k'=> ?_) λ out g ol=> ?_
    · refine ⟨bs,ks,rfl,List.Perm.refl _,?_,by rw [hbl,hkl],λ i hi=>hbt i (hkl▸hi)⟩
      match ks,hkl,hvl▸c with
      | [],_,_=>exact .nil
      | [_],_,_=>exact List.pairwise_singleton ..
      | _::_::_,e,z=>rw [<-e] at z;simp only [Ad8] at z;omega
    · have tp:∀ i,i<kvs.length->∃ x j t u,ks.getD i []=[.inr x, .inl j]/\IsTup h' (bs.getD i 0) #[.str x t, .int j u]:=by
        intro i hi;have hm:ks.getD i []∈ks:=by
          rw [Aa0,Aa1 (hkl▸hi)];exact Ad9 _
        obtain ⟨x,j,e⟩:=lx.shp _ hm;have hb:=hbt i hi;rw [e] at hb;obtain ⟨its,rv,⟨ob,hob,hcb,n,hdb⟩, -⟩:=I1.tuple (SqT.of (K:=X.K) hb);cases rv with
        | cons r1 rr=>
          cases rr with
          | cons r2 rr2=>
            cases rr2;obtain ⟨t,rfl⟩:=r1;obtain ⟨u,rfl⟩:=r2;exact ⟨x,j,t,u,e,ob,k' _ _ (Ac9 (Aa9 hob)) (Aa4 _ hob),hcb,n,hdb⟩
      obtain ⟨fs,kf,fl,fst⟩:=HT.kat_strs (h:=h') (bs.map Value.ref) (λ v hv=>by
        obtain ⟨b,hb,rfl⟩:=Ab2.mp hv;obtain ⟨i,hi,rfl⟩:=List.mem_iff_getElem.mp hb;obtain ⟨x,j,t,u, -,z⟩:=tp i (hbl▸hi);rw [Aa0,Aa1 hi] at z;exact ⟨_,x,j,t,u,rfl,z⟩)
      have inj:MSort.Inj (λ i=>rk (ks.getD i [])) kvs.length:=by
        intro i j hi hj e;have mi:ks.getD i []=ks[i]'(hkl▸hi):=by rw [Aa0,Aa1 (hkl▸hi)];rfl
        have mj:ks.getD j []=ks[j]'(hkl▸hj):=by rw [Aa0,Aa1 (hkl▸hj)];rfl
        have e:rk (ks.getD i [])=rk (ks.getD j []):=e;rw [mi,mj] at e;have:=lx.inj _ (Ad9 _) _ (Ad9 _) e;exact (List.getElem_inj (hkk▸hnd)).mp this
      have ev:∀ i,i<kvs.length->(bs.map Value.ref).getD i Value.none= .ref (bs.getD i 0):=by
        intro i hi;rw [Aa0,Aa8,Aa0,Aa1 (hbl▸hi)];rfl
      have bnd:∀ i j,i<(bs.map Value.ref).length->j<(bs.map Value.ref).length->(bs.map Value.ref).getD i Value.none=(bs.map Value.ref).getD j Value.none->i=j:=λ i j hi hj e=>by
        rw [hvl] at hi hj;rw [ev i hi,ev j hj] at e;have e:bs.getD i 0=bs.getD j 0:=by injection e
        have h1:=hbt i hi;rw [e,hbt j hj] at h1;refine inj i j hi hj ?_;have h1:(ks.getD j []).map kV=(ks.getD i []).map kV:=by injection h1 with h1;injection h1
        obtain ⟨x,a,t,u,e1,_⟩:=tp i hi;obtain ⟨y,b,t',u',e2,_⟩:=tp j hj;show rk (ks.getD i [])=rk (ks.getD j []);rw [e1,e2] at h1 ⊢;simp only [Af0,List.map_nil,kV,List.cons.injEq,and_true] at h1;obtain ⟨h3,h4⟩:=h1;injection h3 with h3;injection h4 with h4;rw [h3,h4]
      rw [hvl];refine ⟨tuples' true,λ i=>rk (ks.getD i []),inj,hvl▸bnd,λ Q q=> ?_,λ i j hi hj C hC=> ?_,λ p' ok up=> ?_⟩
      · refine kat_kind (T:= .type "str") kf (by omega) (λ v hv=> ?_) (by decide) q;obtain ⟨x,t,rfl⟩:=fst v hv;exact Looks.now
      · unfold kas_ask;rw [ev i hi,ev j hj];obtain ⟨x,a,t,u,e1,t1⟩:=tp i hi;obtain ⟨y,b,t',u',e2,t2⟩:=tp j hj;refine HT.lex_lt t1 t2 ?_;have m1:ks.getD i []∈ks:=by
          rw [Aa0,Aa1 (hkl▸hi)];exact Ad9 _
        have m2:ks.getD j []∈ks:=by
          rw [Aa0,Aa1 (hkl▸hj)];exact Ad9 _
        have hC:C (decide (rk (ks.getD i [])<rk (ks.getD j []))) _:=hC;rw [e1] at m1 hC;rw [e2] at m2 hC;rw [lx.ord _ _ _ _ m1 m2];exact hC
      · refine ⟨p'.toList.map (λ i=>bs.getD i 0),p'.toList.map (λ i=>ks.getD i []),?_,?_,?_,by simp,?_⟩
        · rw [Ac8];refine Af6 λ i hi=> ?_;exact ev i (Ac0.mp (ok.perm.mem_iff.mp hi))
        · refine (ok.perm.map _).trans (List.Perm.of_eq ?_);rw [<-hkl];exact AL id ks [] |>.trans (List.map_id _)
        · rw [List.pairwise_iff_getElem];intro i j hi hj hij;rw [Aa2,Ad2,ok.size] at hi hj;have:=up i j hij hj;unfold MSort.K at this;have hi':i<p'.size:=by rw [ok.size];exact hi
          have hj':j<p'.size:=by rw [ok.size];exact hj
          have gi:p'.getD i 0=p'[i]:=by simp [Array.getD,hi']
          have gj:p'.getD j 0=p'[j]:=by simp [Array.getD,hj']
          rw [gi,gj] at this;simpa using this
        · intro i hi;rw [Aa2,Ad2,ok.size] at hi;have hi':i<p'.size:=by rw [ok.size];exact hi
          have hl':=ok.lt hi;have gi:p'.getD i 0=p'[i]:=by simp [Array.getD,hi']
          rw [gi] at hl';have z:=hbt p'[i] hl';rw [Aa0,Aa8,Aa0 (l:=List.map _ _),Aa8,Ai1,Array.getElem?_eq_getElem hi'];exact z
    · obtain ⟨cs,ms,rfl,pm,pw,cl,at_⟩:=g;refine ⟨_,rfl,?_⟩;refine Aa7 ⟨_,rfl,?_⟩;obtain ⟨e,he⟩:=sortedHeap_at (out:=(cs.map Value.ref).toArray) hg;refine ⟨.ref h1.objs.size,_,I1.laid (t':=tk) (o:= .lst (cs.map V.ref)) (λ b ob z=> ?_) (Aa6 _) ?_,rfl,q _ cs ms (I1.hok.fresh (Aa6 _)) pm pw cl at_⟩
      · have hb:=Aa9 z;have hsz:b<(h1.push { cls:=Value.type "list",data:=Data.seq (bs.map Value.ref).toArray }).objs.size:=Ae6 hb (Aa9 hg);show (sortedHeap _ _ _ _).get? b=_;rw [sortedHeap_old (Ac9 hb) hsz];exact Aa4 _ z
      · refine ⟨?_,cs.map Value.ref,e,HP cs,?_⟩
        · rw [Aa2,cl,pm.length_eq,hkl];exact Ae0 (Ai4 hl) (by decide)
        · show (sortedHeap _ _ _ _).get? _=_;rw [he]
  · rw [hvl];exact Ae0 (Ai4 hl) (by decide)
theorem Nc {H:Hp} {Q:VK} {p:Addr} {kvs:List (List Key × V)} (rk:List Key->Nat) (hp:H p=some (.dT kvs)) (n:kvs.length<128) (lx:LexOk rk (kvs.map (·.1)))
    (h:∀ (l:Addr) (bs:List Addr) (ms:List (List Key)),H l=none->ms.Perm (kvs.map (·.1))->ms.Pairwise (λ a b=>rk a<rk b)->bs.length=ms.length->(∀ i,i<ms.length->H (bs.getD i 0)=some (.tup ((ms.getD i []).map kV)))->Q (.ref l) (upd H l (.lst (bs.map V.ref)))):M8 [.ref p] H Q:=⟨p,kvs,rk,rfl,hp,n,lx,h⟩
end L2
namespace HT
open PySem PySem.Spec PyProof.Rows PySem.W
def Oh (val:Nat->List Value) (st:List Value):Nat->List Value
  | 0=>st
  | i+1=>Oh val st i++val i
def LsAt (h:Heap) (a:Addr) (xs:List Value):Prop:=∃ c,h.get? a=some ⟨.type "list",none, .seq xs.toArray c, #[]⟩
theorem LsAt.to {h h':Heap} {a:Addr} {xs:List Value} (l:LsAt h a xs) (k:∀ o,h.get? a=some o->h'.get? a=some o):LsAt h' a xs:=let ⟨c,e⟩:=l;⟨c,k _ e⟩
section
variable {prog:Program} {w:World} {A:Around} {E:Value->Shared->Prop} {s:Shared}
theorem RX {x y:Addr} {xs ys:List Value} {Q:Value->Shared->Prop} (hx:LsAt s.heap x xs) (hy:LsAt s.heap y ys) (hz:xs.length+ys.length<=sizeLine) (h:∀ h',(∀ b o,s.heap.get? b=some o->h'.get? b=some o)->LsAt h' s.heap.objs.size (xs++ys)->Q (.ref s.heap.objs.size) { s with heap:=h' }):wpAny (model prog w) A (binaryOp .Add (.ref x) (.ref y)) Q E s:=by
  obtain ⟨n,ho⟩:=hx;obtain ⟨n2,ho2⟩:=hy;refine concat_meets ⟨_,ho,rfl⟩ ⟨_,ho2,rfl⟩ noFill_list_add seq_list_add PySem.F.slot_list_add PySem.F.entry_list_add (PySem.F.args_list_add_2 _ _) (list_addW x y xs.toArray ys.toArray n n2 none none #[] #[] (by rw [Ab8,Ab8];exact hz)) ⟨ho,ho2,?_⟩;rw [show xs.toArray++ys.toArray=(xs++ys).toArray by simp];exact h _ (λ b o e=>Aa4 _ e) ⟨_,Ab3 _ rfl⟩
theorem L6 {R:Result->Shared->Prop} {I S:Addr} {fp wr:List Addr} {n:Nat} {P:Nat->Value->Prop} {St:Nat->Heap->Prop} {h₀:Heap} {ad:Nat->Addr} {val:Nat->List Value} {st:List Value}
    (W:Walks prog w A.in1 I fp wr n P St) (hv:∀ i v,P i v->v= .ref (ad i)) (hSl:∀ b∈fp,b<S) (hw:∀ b∈wr,h₀.objs.size<=b) (hS0:h₀.objs.size<=S) (hl:∀ i,i<n->LsAt h₀ (ad i) (val i)) (hz:∀ i,i<=n->(Oh val st i).length<=sizeLine):
    ∀ (k i:Nat) (s:Shared) (T:Addr) (c:Nat),n - i=k->i<=n->St i s.heap->(∀ b o,h₀.get? b=some o->s.heap.get? b=some o)->s.heap.get? S=some ⟨.type "list",none, .seq #[.ref T] c, #[]⟩->LsAt s.heap T (Oh val st i)->T∉S::wr->(i=0\/h₀.objs.size<=T)->
    (∀ h' tk T',(∀ b o,h₀.get? b=some o->h'.get? b=some o)->LsAt h' T' (Oh val st n)->(n=0\/h₀.objs.size<=T')->R (.ok (.ret (.ref T'))) { s with heap:=h',toks:=tk })->codeAny (model prog w) A (.builtin "sum.loop" ⟨[.ref I, .ref S,rawInt 2,rawInt 0],[]⟩) R s:=by
  have hSf:S∉fp:=λ q=>Ae5 _ (hSl _ q);have nS:S∉wr:=λ q=>hSf (W.sub _ q);intro k
  induction k with
  | zero=>
    intro i s T c hk hi hst old hS hT nT new hR;obtain rfl:i=n:=by omega
    refine codeAny_builtin F.entry_sum_loop ?_;rw [Around.under_plainId F.plain_sum_loop _];refine Aa3 (wpAny_seqItems hS rfl ?_);refine Aa3 (wpAny_tryCatch (W.done s _ _ hst λ h' tk hm=> ?_));refine Aa7 (hR h' tk T (λ b o e=>hm b o (λ q=>Ae5 _ (Ac3 (Aa9 e) (hw b q))) (old b o e)) (hT.to λ o e=>hm _ _ (λ q=>nT (Ad1 _ q)) e) new)
  | succ k ih=>
    intro i s T c hk hi hst old hS hT nT new hR;have hlt:i<n:=by omega
    refine codeAny_builtin F.entry_sum_loop ?_;rw [Around.under_plainId F.plain_sum_loop _];refine Aa3 (wpAny_seqItems hS rfl ?_);refine Aa3 (wpAny_tryCatch (W.item i s _ _ hlt hst λ v h1 tk hP hst1 hm=> ?_));have ev:=hv i v hP;subst ev;have old1:∀ b o,h₀.get? b=some o->h1.get? b=some o:=λ b o e=>hm b o (λ q=>Ae5 _ (Ac3 (Aa9 e) (hw b q))) (old b o e);have hS1:=hm S _ nS hS;have hT1:=hT.to λ o e=>hm T o (λ q=>nT (Ad1 _ q)) e;have hA1:=(hl i hlt).to λ o e=>old1 _ o e;have hz1:=hz (i+1) hlt;refine Aa3 (wpAny_attempt (Ah9 (RX (s:={ s with heap:=h1,toks:=tk }) hT1 hA1 (by rw [<-Ab0];exact hz1) λ h2 k2 hN=> ?_)));dsimp only at k2 hN ⊢;have hS2:=k2 S _ hS1;have nN:h1.objs.size∉S::wr:=λ q=>by
      rcases Ac2.mp q with e | q
      · exact absurd (Aa9 hS1) (by rw [<-e];exact Ae5 _)
      · exact absurd (Ae6 (hSl _ (W.sub _ q)) (Aa9 hS1)) (Ae5 _)
    refine Aa3 (wpAny_updateSeq hS2 rfl ?_);refine Aa3 (wpAny_letGo ?_);have hS3:=Ag5 (Obj.mapSeq λ _=> #[Value.ref h1.objs.size]) hS2 rfl;refine Aa3 (wpAny_updateSeq hS3 rfl (Aa7 ⟨plainId_quiet F.plain_sum_loop _,?_⟩));have kp:∀ b o,b≠S->h2.get? b=some o->((h2.update S (Obj.mapSeq λ _=> #[Value.ref h1.objs.size])).update S (Obj.mapSeq λ _=> #[Value.ref h1.objs.size])).get? b=some o:=λ b o nb e=>(Af7 _ _ (Ne.symm nb)).trans ((Af7 _ _ (Ne.symm nb)).trans e);refine ih (i+1) _ h1.objs.size _ (by omega) hlt (W.frame _ h1 _ hst1 λ b hb o e=>kp b o (λ z=>hSf (z▸hb)) (k2 b o e)) (λ b o e=>kp b o (λ z=>Ae5 _ (Ac3 (Aa9 e) (by rw [z];exact hS0))) (k2 b o (old1 b o e))) (Ag5 _ hS3 rfl) (hN.to λ o e=>kp _ o (λ z=>nN (by rw [z];exact Ae1)) e) nN (.inr ?_) λ h' tk' T' a b c=>hR h' tk' T' a b c;exact Ai4 (Ae8 hS0 (Aa9 hS1))
end
theorem LU (a b:Value):argsOk "sum" ⟨[a,b],[]⟩:=by unfold argsOk;kernel_rfl
end HT
namespace L2
open PySem PySem.Spec PyProof.Rows PySem.W HT
def Qx:List V->Hp->VK->Prop:=λ xs H Q=>∃ (p e:Addr) (as:List Addr) (vss:List (List V)),xs=[.ref p, .ref e]/\H p=some (.lst (as.map V.ref))/\H e=some (.lst [])/\as.length=vss.length/\0<as.length/\(∀ i,i<vss.length->H (as.getD i 0)=some (.lst (vss.getD i [])))/\vss.flatten.length<=sizeLine/\∀ l,H l=none->Q (.ref l) (upd H l (.lst vss.flatten))
theorem Lu {f:Nat->List Value} {vss:List (List V)} (h:∀ i,i<vss.length->Vals (vss.getD i []) (f i)):∀ i,i<=vss.length->Vals (vss.take i).flatten (Oh f [] i)
  | 0,_=>by rw [List.take_zero];exact .nil
  | i+1,hi=>by
    rw [List.take_succ_eq_append_getElem hi,List.flatten_append];refine (Lu h i (by omega)).append ?_;have:=h i hi;rw [Aa0,Aa1 hi] at this;simpa using this
theorem OD {X:Cx} (hc:X.calm=true):Bh X (.builtin "sum") Qx:=by
  intro pins s σ H xs us Q I r h;obtain ⟨p,e,as,vss,rfl,hp,he,hl,h0,ha,hz,q⟩:=h;obtain ⟨u,u2,rfl,rx,ry⟩:=QE r;cases rx;cases ry;have rd:∀ (a:Addr) (xs:List V),H a=some (.lst xs)->∃ its:List Value,Vals xs its/\LsAt s.heap a its:=λ a xs g=>by
    obtain ⟨z,its,n,r,e⟩:=(show ObjOk X.prog X.w H s.heap a (.lst xs) from I.hok a _ g);exact ⟨its,r,n,e⟩
  obtain ⟨its,rv,pl⟩:=rd p _ hp;obtain ⟨its0,rv0,pl0⟩:=rd e _ he;cases rv0;obtain ⟨f,hf⟩:∃ f:Nat->List Value,∀ i,i<vss.length->Vals (vss.getD i []) (f i)/\LsAt s.heap (as.getD i 0) (f i):=by
    refine ⟨λ i=>if h:i<vss.length then (rd _ _ (ha i h)).choose else [],λ i hi=> ?_⟩;dsimp only;rw [dif_pos hi];exact (rd _ _ (ha i hi)).choose_spec
  have eits:its=as.map Value.ref:=by
    clear hp ha hf hl h0 pl I
    induction as generalizing its with
    | nil=>cases rv;rfl
    | cons a as ih=>
      cases rv with
      | cons x r=>cases x;rw [ih _ r];rfl
  subst eits;refine call_function_tree F.kind_sum F.plain_sum F.entry_sum (LU _ _) ?_;unfold Builtin.«sum»;simp only [Ad8,List.length_nil];rw [if_neg (by decide)];refine Aa3 (wpAny_of_eq (show Builtin.Builtins.bindParams "sum" ["start"] 0 ⟨[.ref e],[]⟩=pure [some (.ref e)] from rfl) ?_);obtain ⟨n1,g1⟩:=pl;obtain ⟨n0,g0⟩:=pl0;refine Aa3 (wpAny_pyIter_list (l:=p) (items:=(as.map Value.ref).toArray) ⟨_,g1,rfl,_,rfl⟩ ?_);have k1:∀ b o,s.heap.get? b=some o->(s.heap.push { cls:= .type "list_iterator",data:= .fields #[.ref p, .int 0 0] }).get? b=some o:=λ b o e=>Aa4 _ e;simp only [List.forIn_cons,List.forIn_nil];have ty:(Shared.TypeIs { s with heap:=s.heap.push { cls:= .type "list_iterator",data:= .fields #[.ref p, .int 0 0] } } (.ref e) "list"):=⟨_,k1 _ _ g0,rfl⟩;refine Aa3 (Aa7 ?_);refine Aa3 (Aa3 (Aa3 (Ai6 (T:="list") (b:=false) ty F.sub_list_str ?_)));simp only [Ab9,if_false];refine Aa7 (Aa3 (Aa3 (Ai6 (T:="list") (b:=false) ty F.sub_list_bytes ?_)));simp only [Ab9,if_false];refine Aa7 (Aa3 (Aa3 (Ai6 (T:="list") (b:=false) ty F.sub_list_bytearray ?_)));simp only [Ab9,if_false];refine Aa7 (Aa7 ?_);refine Aa3 (Ag3 ?_);have hpI:s.heap.objs.size≠p:=λ z=>Ae5 _ (z▸Aa9 g1);have k2:∀ b o,(s.heap.push { cls:= .type "list_iterator",data:= .fields #[.ref p, .int 0 0] }).get? b=some o->((s.heap.push { cls:= .type "list_iterator",data:= .fields #[.ref p, .int 0 0] }).push { cls:= .type "list",data:= .seq #[.ref e] 0 }).get? b=some o:=λ b o e=>Aa4 _ e;have W:=Walks.list (prog:=X.prog) (w:=X.w) (A:=X.A.in1) (I.ok.hd hc) s.heap.objs.size p (Ne.symm hpI) (as.map Value.ref).toArray;have szI:s.heap.objs.size<(s.heap.push { cls:= .type "list_iterator",data:= .fields #[.ref p, .int 0 0] }).objs.size:=Aa9 (Ab3 _ rfl);have sz:(as.map Value.ref).toArray.size=vss.length:=by simp [hl]
  have pv:=λ i hi=>Lu (λ i hi=>(hf i hi).1) i hi;refine Aa7 ⟨plainId_quiet F.plain_sum_loop _,L6 (S:=(s.heap.push { cls:= .type "list_iterator",data:= .fields #[.ref p, .int 0 0] }).objs.size) (h₀:=s.heap) (ad:=λ i=>as.getD i 0) (val:=f) (st:=[]) W (λ i v hv=> ?_) (λ b hb=> ?_) (λ b hb=> ?_) (Ai4 szI) (λ i hi=>(hf i (sz▸hi)).2) (λ i hi=> ?_) _ 0 _ e 0 rfl (Ad3 _) ⟨⟨_,k2 _ _ (Ab3 _ rfl),rfl,rfl⟩,⟨_,k2 _ _ (k1 _ _ g1),rfl,_,rfl⟩⟩ (λ b o e=>k2 _ _ (k1 _ _ e)) (Ab3 _ rfl) ⟨_,k2 _ _ (k1 _ _ g0)⟩ (λ z=> ?_) (.inl rfl) λ h' tk T' kk lt nw=> ?_⟩
  · rcases Ad4 i as.length with z | z
    · rw [List.getElem?_toArray,Aa8,Aa1 z] at hv;cases hv;show _=Value.ref (as.getD i 0);rw [Aa0,Aa1 z];rfl
    · rw [List.getElem?_toArray,Aa8,Ah3 z] at hv;cases hv
  · rcases Ac2.mp hb with rfl | hb
    · exact szI
    · rw [Ab7.mp hb];exact Ae6 (Aa9 g1) szI
  · rw [Ab7.mp hb];exact Aa6 _
  · have:=(pv i (sz▸hi)).length;rw [<-this];refine Ae0 ?_ hz
    conv=>rhs;rw [<-Af5 i vss,List.flatten_append,Ab0]
    exact Nat.le_add_right _ _
  · rcases Ac2.mp z with z | z
    · exact Ae5 _ (Ae6 (z▸Aa9 g0) szI)
    · have:=Ab7.mp z;exact Ae5 _ (this▸Aa9 g0)
  · rw [sz] at lt;obtain ⟨c,lt⟩:=lt;have v:=pv vss.length (Aa6 _);rw [Af2] at v;have nT:s.heap.objs.size<=T':=nw.resolve_left (by rw [sz];omega);exact ⟨.ref T',_,I.laid (o:= .lst vss.flatten) kk nT ⟨hz,_,c,v,lt⟩,rfl,q _ (I.hok.fresh nT)⟩
theorem K9 {H:Hp} {Q:VK} {p e:Addr} {as:List Addr} {vss:List (List V)} (hp:H p=some (.lst (as.map V.ref))) (he:H e=some (.lst [])) (hl:as.length=vss.length) (h0:0<as.length) (ha:∀ i,i<vss.length->H (as.getD i 0)=some (.lst (vss.getD i []))) (hz:vss.flatten.length<=sizeLine) (q:∀ l,H l=none->Q (.ref l) (upd H l (.lst vss.flatten))):Qx [.ref p, .ref e] H Q:=⟨p,e,as,vss,rfl,hp,he,hl,h0,ha,hz,q⟩
def Os (K:PySem.W.Frag):List V->Hp->VK->Prop:=λ xs H Q=>∃ (p:Addr) (ns:List Int),xs=[.ref p]/\SqL K H p (ns.map V.int)/\ns.length<64/\∀ (l:Addr) (ms:List Int),H l=none->ms.Perm ns->ms.Pairwise (· <= ·)->Q (.ref l) (upd H l (.lst (ms.map V.int)))
theorem DD {X:Cx} {K:PySem.W.Frag} (hK:X.K=K:=by rfl):Bh X (.builtin "sorted") (Os K):=by
  subst hK;intro pins s σ H xs us Q I r h;obtain ⟨p,ns,rfl,hq,hl,q⟩:=h;obtain ⟨u,rfl,rx⟩:=Ds r;cases rx;obtain ⟨its,rv,⟨o,n,ho,hc,_,hd⟩,hz⟩:=I.list hq;have hlen:its.length=ns.length:=by have:=rv.length;simpa using this.symm
  refine Calls.call_function_entry kind_sorted plain_sorted entry_sorted (args_sorted1 _) ?_;show wpAny _ _ (checkCount "sorted" 1 1 1 >>= λ _=>collect (.ref p) >>= λ xs=>newList xs >>= λ l=>holding [l] (call (.builtin "list.sort") [l] []) >>= λ _=>ret l) _ _ _;rw [ED];refine Aa3 (Aa7 ?_);refine Aa3 (wpAny_collect_seq p (.inl rfl) ho hc hd (λ h1 k1=> ?_) ?_)
  · have I1:=I.kept (t':=s.toks) k1;refine Aa3 (wpAny_newList ?_ ?_)
    · refine Aa3 (Ah9 ?_);have hg:(h1.push { cls:=Value.type "list",data:=Data.seq its.toArray }).get? h1.objs.size=some (seqObj "list" its.toArray 0):=Ab3 _ rfl;refine Ag1 slot_list_sort ⟨_,hg,rfl⟩ entry_list_sort ?_ (args_list_sort _);refine list_sort_tree (vs:=its) (ns:=ns) hg (Gi rv) (by omega) λ out ns' io pm pw=> ?_;refine ⟨_,rfl,?_⟩;refine Aa7 ⟨_,rfl,?_⟩;obtain ⟨e,he⟩:=sortedHeap_at (out:=out) hg;refine ⟨.ref h1.objs.size,_,I1.laid (t':=s.toks) (o:= .lst (ns'.map V.int)) (λ b ob z=> ?_) (Aa6 _) ?_,rfl,q _ ns' (I1.hok.fresh (Aa6 _)) pm pw⟩
      · have hb:=Aa9 z;have hsz:b<(h1.push { cls:=Value.type "list",data:=Data.seq its.toArray }).objs.size:=Ae6 hb (Aa9 hg);show (sortedHeap _ _ _ _).get? b=_;rw [sortedHeap_old (Ac9 hb) hsz];exact Aa4 _ z
      · refine ⟨?_,out.toList,e,Ey io,?_⟩
        · rw [Aa2,pm.length_eq];exact Ae0 (Ai4 hl) (by decide)
        · show (sortedHeap _ _ _ _).get? _=_;rw [he]
    · show its.toArray.toList.length<=_;simp;exact Ae0 (show its.length<=64 by omega) (by decide)
  · rw [Ab8];exact Ae0 (show its.length<=64 by omega) (by decide)
theorem Pe:∀ {a b:List Int},a.Pairwise (· <= ·)->b.Pairwise (· <= ·)->a.Perm b->a=b:=λ h1 h2 p=>p.eq_of_pairwise (λ a b _ _ x y=>Int.le_antisymm x y) h1 h2
theorem Et {K:PySem.W.Frag} {H:Hp} {Q:VK} {p:Addr} {ns ms:List Int} (c:SqL K H p (ns.map V.int)) (n:ns.length<64) (pm:ms.Perm ns) (pw:ms.Pairwise (· <= ·)) (h:∀ (l:Addr),H l=none->Q (.ref l) (upd H l (.lst (ms.map V.int)))):Os K [.ref p] H Q:=⟨p,ns,rfl,c,n,λ l ms' hl pm' pw'=>by
  rw [Pe pw' pw (pm'.trans pm.symm)];exact h l hl⟩
section
variable {X:Cx} {K:PySem.W.Frag} {scope:Scope}
theorem Ny {elt iter:Expr} {x y z:Str} {px py pz pt:Pos} {k:Nat} {ifs:List Expr} {pos:Pos} {wi:TI} {tc:TT} {te:TE} (hi:PI X (.Tuple [.Name x px, .Name y py, .Name z pz] k pt) iter wi)
    (ht:∀ C ex s H,PTs (AO X scope [x,y,z] (Cd X.N scope) C ex s H) ifs tc) (he:∀ C ex s H,PE (AO X scope [x,y,z] (Cd X.N scope) C ex s H) elt te) (hK:X.K=K:=by rfl)
    (hb:Dp X.env.scope X.N scope [x,y,z] (Cd X.N scope)=true:=by with_unfolding_all rfl) (hc:X.calm=true:=by rfl)
    (hs:∀ x,foldedSetIterable iter X.env x=pure x:=by intro _;rfl):PE X (.ListComp elt [⟨.Tuple [.Name x px, .Name y py, .Name z pz] k pt,iter,ifs,0⟩] scope pos) (DN wi [x,y,z] (Cd X.N scope) (E8 K 3 (A0 (Ax 0) (A0 (Ax 1) (A0 (Ax 2) FC)))) tc te):=
  FP hc (.of hb) hi (λ C ex s H=>by
    subst hK;exact J4 (X:=AO X scope [x,y,z] (Cd X.N scope) C ex s H) hc (AD (Dw hb rfl C ex s H) (AD (Dw hb rfl C ex s H) (AD (Dw hb rfl C ex s H) CU)))) ht he hs
end
def TY:List V->Hp->VK->Prop:=λ xs H Q=>∃ (a:Addr) (kvs:List (List Key × V)),xs=[.ref a]/\H a=some (.dT kvs)/\Q (.int kvs.length) H
theorem PV {prog:Program} {w:World} {d:Addr} (hd:(d == sysModules)=false) (n:Nat):
    MeetsIn prog w (Builtin.«dict.__len__» ⟨[.ref d],[]⟩) (λ _ R s=>∃ o es ep,s.heap.get? d=some o/\o.data= .dict es ep/\es.size=n/\R (.ok (.ret (.int n s.toks))) { s with toks:=s.toks+1 }):=
  .of_wp λ A R s ⟨o,es,ep,ho,hdat,hn,h⟩=>by
    show wpAny _ _ (dictSize d >>= _) _ _ s;unfold dictSize;refine Aa3 (Aa3 (Ai7 ho hdat (Aa7 ?_)));show wpAny _ _ (Builtin.Dict.pendingCount d >>= _) _ _ s;refine Aa3 (wpAny_pendingCount_other hd ?_);refine wpAny_ret_mkInt ?_;rw [Nat.add_zero,hn];exact h
theorem LR {X:Cx}:Bh X (.builtin "len") TY:=by
  intro pins s σ H xs us Q I r h;obtain ⟨a,kvs,rfl,ha,q⟩:=h;obtain ⟨u,rfl,ru⟩:=Ds r;cases ru;obtain ⟨hz,hs,ys,kt,o,es,ep,ho,hx,hd,hes, -,hnd⟩:=LM I.hok ha;have hlen:ys.length=kvs.length:=(Paired.length kt).symm;have hsz:es.size=kvs.length:=by rw [<-Ad2,hes,Aa2,hlen]
  have ty:s.TypeIs (.ref a) "dict":=⟨o,ho,hx.1⟩;have hfit:((kvs.length:Nat):Int)<2 ^ 63:=by rw [sizeLine_eq] at hz;omega
  refine Calls.call_function_entry kind_len plain_len entry_len (args_len1 _) ?_;unfold Builtin.«len»;refine Aa3 (m:=oneArg "len" _) (Aa7 ?_);refine Aa3 (m:=callSpecial? (.ref a) (Str.ofString "__len__")) (Ag7 (name:=Str.ofString "__len__") ty F.slot_dict_len
    (call_meetsIn F.slot_dict_len ty F.entry_dict_len (F.args_dict_len_1 _) (PV hs kvs.length) ⟨o,es,ep,ho,hd,hsz,?_⟩))
  show wpAny _ _ _ _ _ { s with toks:=s.toks+1 };refine Aa3 (Ah9 (Aa7 ?_));refine Aa3 (wpAny_letGo ?_);show wpAny _ _ (if ((kvs.length:Nat):Int)<0 then _ else _) _ _ _;rw [if_neg (by omega)];show wpAny _ _ (if ((kvs.length:Nat):Int)>=2 ^ 63 then _ else _) _ _ _;rw [if_neg (by omega)];exact Aa3 (wpAny_mkInt (Aa7 ⟨_,rfl, .int kvs.length,H,I.tok _,⟨_,rfl⟩,q⟩))
def Ib (ta:TA):TE:=λ σ H Q=>ta σ H λ vs H1=>∃ (i j k:Int) (n:Nat),vs=[.int i, .int j, .int k]/\(-(2 ^ 40)<=i/\i<2 ^ 40)/\(-(2 ^ 40)<=j/\j<2 ^ 40)/\(0<k/\k<2 ^ 20)/\Builtin.Range.rangeSize i j k=(n:Nat)/\n<=100000/\∀ l,H1 l=none->Q (.ref l) (upd H1 l (.lst (((Aa5 n).map λ a:Nat=>i+(a:Int)*k).map V.int)))
theorem Ff {ta:TA} {σ:St} {H:Hp} {Q:VK} (h:ta σ H λ vs H1=>∃ (i j k:Int) (n:Nat),vs=[.int i, .int j, .int k]/\(-(2 ^ 40)<=i/\i<2 ^ 40)/\(-(2 ^ 40)<=j/\j<2 ^ 40)/\(0<k/\k<2 ^ 20)/\Builtin.Range.rangeSize i j k=(n:Nat)/\n<=100000/\∀ l,H1 l=none->Q (.ref l) (upd H1 l (.lst (((Aa5 n).map λ a:Nat=>i+(a:Int)*k).map V.int)))):Ib ta σ H Q:=h
theorem Fk {X:Cx} {a b d:Expr} {ta:TA} {p p2 pos pos2:Pos} (hgl:Gl X "list") (hml:X.mg "list"=none) (hg:Gl X "range") (hm:X.mg "range"=none) (ha:PA X [a,b,d] ta) (hc:X.calm=true:=by rfl)
    (hs:starEach [a,b,d] X.env=[(false,eval a X.env),(false,eval b X.env),(false,eval d X.env)]:=by rfl) (hs2:starEach [b,d] X.env=[(false,eval b X.env),(false,eval d X.env)]:=by rfl)
    (hs1:starEach [Expr.Call (.Name "range" p2) [a,b,d] [] pos2] X.env=[(false,eval (.Call (.Name "range" p2) [a,b,d] [] pos2) X.env)]:=by rfl):
    PE X (.Call (.Name "list" p) [.Call (.Name "range" p2) [a,b,d] [] pos2] [] pos) (Ib ta):=by
  intro pins s σ H Q I h;have hmid:wpAny (model X.prog X.w) X.A (eval (.Call (.Name "range" p2) [a,b,d] [] pos2) X.env) (λ v s1=>∃ r i j k n t u w H1,v=Value.ref r/\Inv X pins σ H1 s1/\IsRange s1.heap r i j k t u w/\(-(2 ^ 40)<=i/\i<2 ^ 40)/\(-(2 ^ 40)<=j/\j<2 ^ 40)/\(0<k/\k<2 ^ 20)/\Builtin.Range.rangeSize i j k=((n:Nat):Int)/\n<=100000/\∀ l,H1 l=none->Q (.ref l) (upd H1 l (.lst (((Aa5 n).map λ a:Nat=>i+(a:Int)*k).map V.int)))) X.xe s:=by
    refine Call_ (BX I hg hm boot_range (PyProof.Rows.callWith_type1 (thn (ha pos2 pins s σ H _ I h) λ us s1 ⟨vs,H1,I1,r1,q1⟩=> ?_) (by rw [hs,hs2]) (by rw [hs2];rfl)));obtain ⟨i,j,k,n,e,h1,h2,h3,hn,sm,q⟩:=q1;subst e;cases r1 with
    | cons r rr=>
      cases rr with
      | cons r' rr=>
        cases rr with
        | cons r'' rr=>
          cases rr;obtain ⟨t,rfl⟩:=r;obtain ⟨t',rfl⟩:=r';obtain ⟨t'',rfl⟩:=r'';refine call_range_3 (by omega) ?_ (.inl (PyProof.noPylong_small (by omega)));exact ⟨_,i,j,k,n,t,t',t'',H1,rfl,I1.kept λ b o e=>Aa4 _ e,IsRange.new ..,h1,h2,h3,hn,sm,q⟩
  refine Aj1 (BX I hgl hml Bt (PyProof.Rows.callWith_type1 ?_ hs1 rfl));rw [hs1];refine Calls.spliced_cons (thn hmid λ v s1 ⟨r,i,j,k,n,t,u,w,H1,ev,I1,hr,h1,h2,h3,hn,sm,q⟩=>Calls.spliced_nil ?_)
  · subst ev;refine call_list_range (I1.ok.hd hc) hr (OS h1 h2 ⟨by omega,h3.2⟩ (by omega)) hn (by omega) λ h' tk acc c keep hg it=> ?_;have hv:Vals (((Aa5 n).map λ a:Nat=>i+(a:Int)*k).map V.int) acc.toList:=by
      refine FR (by rw [Ad2,it.1];simp) λ b u hu=> ?_;have hk:b<n:=by
        have:=(Ab1.mp hu).1;rw [Ad2,it.1] at this;exact this
      obtain ⟨t,rfl⟩:=it.2 b u (by rw [<-Ai1];exact hu);exact ⟨.int (i+(b:Int)*k),by simp [hk],t,rfl⟩
    refine ⟨.ref s1.heap.objs.size,_,I1.laid (t':=tk) (o:= .lst (((Aa5 n).map λ a:Nat=>i+(a:Int)*k).map V.int)) keep (Aa6 _) ⟨?_,acc.toList,c,hv,?_⟩,rfl,q _ (I1.hok.fresh (Aa6 _))⟩
    · rw [Aa2,Aa2,Ad7];exact Ae0 sm (by decide)
    · rw [hg]
end L2
namespace MG
abbrev Th:=Bool × Nat
abbrev Vis:=List (Th × Option Th)
def has (v:Vis) (x:Th):Bool:=v.any λ p=>decide (p.1=x)
theorem has_iff {v:Vis} {x:Th}:has v x=true↔x∈v.map (·.1):=by
  unfold has;rw [List.any_eq_true,Ab2];constructor
  · rintro ⟨p,hp,e⟩;exact ⟨p,hp,of_decide_eq_true e⟩
  · rintro ⟨p,hp,e⟩;exact ⟨p,hp,decide_eq_true e⟩
def AV (u:Th) (acc:Vis × List Th) (x:Th):Vis × List Th:=if has acc.1 x=true then acc else (acc.1++[(x,some u)],acc.2++[x])
def goT (ad:Th->List Th) (acc:Vis × List Th) (u:Th):Vis × List Th:=(ad u).foldl (AV u) acc
def JO (ad:Th->List Th) (vis:Vis) (met:List Th):Vis × List Th:=met.foldl (goT ad) (vis,[])
def lv (ad:Th->List Th) (one:Th):Nat->Vis × List Th
  | 0=>([(one,none)],[one])
  | k+1=>JO ad (lv ad one k).1 (lv ad one k).2
def End (ad:Th->List Th) (one:Th) (vis:Vis):Prop:=∃ k,lv ad one k=(vis,[])
theorem O8 {ad:Th->List Th} {one:Th} {vis:Vis} {k:Nat} (h:lv ad one k=(vis,[])):∀ j,lv ad one (k+j)=(vis,[])
  | 0=>h
  | j+1=>by
    show JO ad (lv ad one (k+j)).1 (lv ad one (k+j)).2=_;rw [O8 h j];rfl
structure Good (U:List Th) (n0:Nat) (acc:Vis × List Th):Prop where
  nd:(acc.1.map (·.1)).Nodup
  sub:∀ x∈acc.1.map (·.1),x∈U
  sub2:∀ x∈acc.2,x∈U
  len:acc.1.length=n0+acc.2.length
  pre:∀ a b x p,acc.1=a++(x,some p)::b->p∈a.map (·.1)
theorem Good.step {U:List Th} {n0:Nat} {acc:Vis × List Th} {u x:Th} (g:Good U n0 acc) (hx:x∈U) (hu:u∈acc.1.map (·.1)):Good U n0 (AV u acc x):=by
  unfold AV;split
  · exact g
  · rename_i h
    have hn:x∉acc.1.map (·.1):=λ z=>h (has_iff.mpr z);refine ⟨?_,λ y hy=> ?_,λ y hy=> ?_,?_,λ a b y p e=> ?_⟩
    · rw [Ac5];exact L2.nd_snoc g.nd hn
    · rw [Ac5] at hy;rcases Ac4.mp hy with z | z
      · exact g.sub y z
      · rw [Ab7.mp z];exact hx
    · rcases Ac4.mp hy with z | z
      · exact g.sub2 y z
      · rw [Ab7.mp z];exact hx
    · have:=g.len;simp;omega
    · rcases List.eq_nil_or_concat b with rfl | ⟨b',z,rfl⟩
      · have e2:acc.1++[(x,some u)]=a++[(y,some p)]:=e;obtain ⟨e3,e4⟩:=List.append_inj' e2 rfl;injection e4 with e5 _;injection e5 with e6 e7;injection e7 with e8;rw [<-e3, <-e8];exact hu
      · have e0:acc.1++[(x,some u)]=a++(y,some p)::b'.concat z:=e;have e2:acc.1++[(x,some u)]=(a++(y,some p)::b')++[z]:=by rw [e0];simp
        obtain ⟨e3,_⟩:=List.append_inj' e2 rfl;exact g.pre a b' y p e3
theorem GI {u x:Th} {acc:Vis × List Th} {y:Th} (h:y∈acc.1.map (·.1)):y∈(AV u acc x).1.map (·.1):=by
  unfold AV;split
  · exact h
  · rw [Ac5];exact Ah5 _ h
theorem Good.go {U:List Th} {n0:Nat} {u:Th}:∀ (l:List Th) {acc:Vis × List Th},Good U n0 acc->(∀ x∈l,x∈U)->u∈acc.1.map (·.1)->Good U n0 (l.foldl (AV u) acc)/\u∈(l.foldl (AV u) acc).1.map (·.1)/\∀ y∈acc.1.map (·.1),y∈(l.foldl (AV u) acc).1.map (·.1)
  | [],acc,g,_,hu=>⟨g,hu,λ y hy=>hy⟩
  | x::l,acc,g,hl,hu=>by
    rw [Ah2];obtain ⟨a,b,c⟩:=Good.go l (g.step (hl x (Ae1 ..)) hu) (λ y hy=>hl y (Ad1 _ hy)) (GI hu);exact ⟨a,b,λ y hy=>c y (GI hy)⟩
theorem Good.lev {U:List Th} {n0:Nat} {ad:Th->List Th} (cl:∀ t∈U,∀ x∈ad t,x∈U):∀ (met:List Th) {acc:Vis × List Th},Good U n0 acc->(∀ u∈met,u∈acc.1.map (·.1))->Good U n0 (met.foldl (goT ad) acc)
  | [],acc,g,_=>g
  | u::met,acc,g,hm=>by
    rw [Ah2];have hu:=hm u (Ae1 ..);obtain ⟨a,b,c⟩:=Good.go (u:=u) (ad u) g (cl u (g.sub u hu)) hu;exact Good.lev cl met a λ v hv=>c v (hm v (Ad1 _ hv))
theorem Na {u:Th}:∀ (l:List Th) (acc:Vis × List Th) (y:Th),y∈acc.1.map (·.1)->y∈(l.foldl (AV u) acc).1.map (·.1)
  | [],acc,y,h=>h
  | x::l,acc,y,h=>by
    rw [Ah2];exact Na l _ y (GI h)
theorem Li {ad:Th->List Th}:∀ (met:List Th) (acc:Vis × List Th) (y:Th),y∈acc.1.map (·.1)->y∈(met.foldl (goT ad) acc).1.map (·.1)
  | [],acc,y,h=>h
  | u::met,acc,y,h=>by
    rw [Ah2];exact Li met _ y (Na (ad u) acc y h)
theorem Good.bound {U:List Th} {n0:Nat} {acc:Vis × List Th} (g:Good U n0 acc):acc.1.length<=U.length/\acc.2.length<=U.length:=by
  have:=g.nd.length_le_of_subset g.sub;have:=g.len;simp at*;omega
theorem ON {ad:Th->List Th}:∀ (l:List Th) (u:Th) (acc:Vis × List Th),(∀ x∈acc.2,x∈acc.1.map (·.1))->∀ x∈(l.foldl (AV u) acc).2,x∈(l.foldl (AV u) acc).1.map (·.1)
  | [],u,acc,h=>h
  | y::l,u,acc,h=>by
    rw [Ah2];refine ON (ad:=ad) l u _ λ x hx=> ?_;unfold AV at hx ⊢;split
    · rename_i q;rw [if_pos q] at hx;exact h x hx
    · rename_i q
      rw [if_neg q] at hx;rw [Ac5];rcases Ac4.mp hx with z | z
      · exact Ah5 _ (h x z)
      · exact Ac1 _ (by simpa using z)
theorem IG {ad:Th->List Th}:∀ (met:List Th) (acc:Vis × List Th),(∀ x∈acc.2,x∈acc.1.map (·.1))->∀ x∈(met.foldl (goT ad) acc).2,x∈(met.foldl (goT ad) acc).1.map (·.1)
  | [],acc,h=>h
  | u::met,acc,h=>by
    rw [Ah2];exact IG met _ (ON (ad:=ad) (ad u) u acc h)
structure Lv (U:List Th) (a:Vis × List Th):Prop where
  nd:(a.1.map (·.1)).Nodup
  sub:∀ x∈a.1.map (·.1),x∈U
  sub2:∀ x∈a.2,x∈U
  inn:∀ x∈a.2,x∈a.1.map (·.1)
  pre:∀ p q x r,a.1=p++(x,some r)::q->r∈p.map (·.1)
theorem Lv.next {U:List Th} {ad:Th->List Th} (cl:∀ t∈U,∀ x∈ad t,x∈U) {a:Vis × List Th} (l:Lv U a):Lv U (JO ad a.1 a.2)/\(JO ad a.1 a.2).1.length=a.1.length+(JO ad a.1 a.2).2.length:=by
  have g0:Good U a.1.length (a.1,([]:List Th)):=⟨l.nd,l.sub,λ x hx=>(by cases hx),rfl,l.pre⟩;have g:=Good.lev cl a.2 g0 l.inn;exact ⟨⟨g.nd,g.sub,g.sub2,IG a.2 _ (λ x hx=>by cases hx),g.pre⟩,g.len⟩
theorem Lv.zero {U:List Th} {one:Th} (h:one∈U):Lv U ([(one,none)],[one]):=by
  refine ⟨by simp,λ x hx=> ?_,λ x hx=> ?_,λ x hx=>by simpa using hx,λ p q x r e=> ?_⟩
  · simp at hx;rw [hx];exact h
  · simp at hx;rw [hx];exact h
  · cases p with
    | nil=>injection e with e1 _;injection e1 with _ e2;cases e2
    | cons y p=>simp at e
theorem Lv.all {U:List Th} {ad:Th->List Th} {one:Th} (cl:∀ t∈U,∀ x∈ad t,x∈U) (h:one∈U):∀ k,Lv U (lv ad one k)
  | 0=>Lv.zero h
  | k+1=>(Lv.next cl (Lv.all cl h k)).1
theorem Lv.len {U:List Th} {a:Vis × List Th} (l:Lv U a):a.1.length<=U.length:=by
  have:=l.nd.length_le_of_subset l.sub;simpa using this
inductive Rch (ad:Th->List Th) (one:Th):Th->Prop where
  | here:Rch ad one one
  | step {t x:Th} (h:Rch ad one t) (m:x∈ad t):Rch ad one x
theorem Rch.trans {ad:Th->List Th} {a b c:Th} (h:Rch ad a b) (k:Rch ad b c):Rch ad a c:=by
  induction k with
  | here=>exact h
  | step _ m ih=>exact .step ih m
theorem ME {u x y:Th} {acc:Vis × List Th}:y∈(AV u acc x).1.map (·.1)↔y∈acc.1.map (·.1)\/y=x:=by
  unfold AV;by_cases h:has acc.1 x=true
  · rw [if_pos h];constructor
    · exact .inl
    · rintro (z | rfl)
      · exact z
      · exact has_iff.mp h
  · rw [if_neg h];simp
theorem KG {u y:Th}:∀ (l:List Th) (acc:Vis × List Th),y∈(l.foldl (AV u) acc).1.map (·.1)↔y∈acc.1.map (·.1)\/y∈l
  | [],acc=>by simp
  | x::l,acc=>by
    rw [Ah2,KG l,ME,Ac2,or_assoc]
theorem Du {ad:Th->List Th} {y:Th}:∀ (met:List Th) (acc:Vis × List Th),y∈(met.foldl (goT ad) acc).1.map (·.1)↔y∈acc.1.map (·.1)\/∃ t∈met,y∈ad t
  | [],acc=>by simp
  | u::met,acc=>by
    rw [Ah2,Du met];unfold goT;rw [KG];simp only [Ac2,exists_eq_or_imp];rw [or_assoc]
theorem Nr {u x:Th} {K0:List Th} {acc:Vis × List Th} (h:∀ y∈acc.1.map (·.1),y∈K0\/y∈acc.2):∀ y∈(AV u acc x).1.map (·.1),y∈K0\/y∈(AV u acc x).2:=by
  intro y hy;unfold AV at hy ⊢;by_cases q:has acc.1 x=true
  · rw [if_pos q] at hy ⊢;exact h y hy
  · rw [if_neg q] at hy ⊢;rw [Ac5,Ac4] at hy;rcases hy with z | z
    · rcases h y z with w | w
      · exact .inl w
      · exact .inr (Ah5 _ w)
    · exact .inr (Ac1 _ (by simpa using z))
theorem OF {u:Th} {K0:List Th}:∀ (l:List Th) (acc:Vis × List Th),(∀ y∈acc.1.map (·.1),y∈K0\/y∈acc.2)->∀ y∈(l.foldl (AV u) acc).1.map (·.1),y∈K0\/y∈(l.foldl (AV u) acc).2
  | [],acc,h=>h
  | x::l,acc,h=>by rw [Ah2];exact OF l _ (Nr h)
theorem K2 {ad:Th->List Th} {K0:List Th}:∀ (met:List Th) (acc:Vis × List Th),(∀ y∈acc.1.map (·.1),y∈K0\/y∈acc.2)->∀ y∈(met.foldl (goT ad) acc).1.map (·.1),y∈K0\/y∈(met.foldl (goT ad) acc).2
  | [],acc,h=>h
  | u::met,acc,h=>by rw [Ah2];exact K2 met _ (OF _ _ h)
theorem Lx (ad:Th->List Th) (one:Th):∀ k,(∀ t∈(lv ad one k).1.map (·.1),t∈(lv ad one k).2\/∀ x∈ad t,x∈(lv ad one k).1.map (·.1))
  | 0=>λ t ht=> .inl (by simpa [lv] using ht)
  | k+1=>λ t ht=>by
    have up:∀ y,y∈(lv ad one k).1.map (·.1)->y∈(lv ad one (k+1)).1.map (·.1):=λ y hy=>(Du (lv ad one k).2 _).mpr (.inl hy);rcases K2 (K0:=(lv ad one k).1.map (·.1)) (lv ad one k).2 ((lv ad one k).1,[]) (λ y hy=> .inl hy) t ht with z | z
    · rcases Lx ad one k t z with w | w
      · exact .inr λ x hx=>(Du (lv ad one k).2 _).mpr (.inr ⟨t,w,hx⟩)
      · exact .inr λ x hx=>up x (w x hx)
    · exact .inl z
theorem K5 (ad:Th->List Th) (one:Th):∀ k,(∀ t∈(lv ad one k).1.map (·.1),Rch ad one t)/\(∀ x∈(lv ad one k).2,x∈(lv ad one k).1.map (·.1))
  | 0=>⟨λ t ht=>by
      have:t=one:=by simpa [lv] using ht
      subst this;exact .here,λ x hx=>by simpa [lv] using hx⟩
  | k+1=>by
    obtain ⟨a,b⟩:=K5 ad one k;refine ⟨λ t ht=> ?_,IG (lv ad one k).2 ((lv ad one k).1,[]) (λ x hx=>by cases hx)⟩;rcases (Du (lv ad one k).2 ((lv ad one k).1,[])).mp ht with z | ⟨u,hu,z⟩
    · exact a t z
    · exact .step (a u (b u hu)) z
theorem End.iff {ad:Th->List Th} {one:Th} {vis:Vis} (e:End ad one vis) (x:Th):has vis x=true↔Rch ad one x:=by
  obtain ⟨k,hk⟩:=e;have a:=K5 ad one k;have b:=Lx ad one k;rw [hk] at a b;rw [has_iff];refine ⟨a.1 x,λ h=> ?_⟩
  induction h with
  | here=>
    have:∀ j,one∈(lv ad one j).1.map (·.1):=λ j=>by
      induction j with
      | zero=>simp [lv]
      | succ j ih=>exact (Du (lv ad one j).2 _).mpr (.inl ih)
    have:=this k
    rwa [hk] at this
  | step _ m ih=>
    rcases b _ ih with z | z
    · cases z
    · exact z _ m
theorem QH {α:Type} (f:α->Nat):∀ {l m:List α},l.Perm m->l.Pairwise (λ a b=>f a<f b)->m.Pairwise (λ a b=>f a<f b)->l=m
  | [],m,p,_,_=>p.nil_eq
  | a::l,[],p,_,_=>absurd p.length_eq (by simp)
  | a::l,b::m,p,h,k=>by
    rw [List.pairwise_cons] at h k;have e:a=b:=by
      have ha:=p.mem_iff.mp (Ae1 (a:=a) (l:=l));have hb:=p.mem_iff.mpr (Ae1 (a:=b) (l:=m));rcases Ac2.mp ha with z | z
      · exact z
      · rcases Ac2.mp hb with w | w
        · exact w.symm
        · have h1:=k.1 a z;have h2:=h.1 b w;omega
    subst e;rw [QH f (List.perm_cons a |>.mp p) h.2 k.2]
end MG
namespace ML
variable {α:Type} [DecidableEq α]
abbrev En (α:Type):=List α × List α
def R (U:List α) (rel:α->α->Bool) (t:α):List α:=U.filter (rel t)
def grp (U:List α) (rel:α->α->Bool) (k:List α):List α:=U.filter λ t=>decide (R U rel t=k)
def isNx (e:En α) (told:List α):Bool:=decide ((e.1.filter λ t=>decide (t∈told)).length+e.2.length=e.1.length)
structure Pre (U:List α) (rel:α->α->Bool):Prop where
  rf:∀ t∈U,rel t t=true
  tr:∀ a∈U,∀ b∈U,∀ c∈U,rel a b=true->rel b c=true->rel a c=true
theorem mem_R {U:List α} {rel:α->α->Bool} {t u:α}:u∈R U rel t↔u∈U/\rel t u=true:=by unfold R;rw [Ac7]
theorem mem_grp {U:List α} {rel:α->α->Bool} {k:List α} {t:α}:t∈grp U rel k↔t∈U/\R U rel t=k:=by unfold grp;rw [Ac7,decide_eq_true_iff]
theorem R_eq {U:List α} {rel:α->α->Bool} (p:Pre U rel) {t u:α} (ht:t∈U) (hu:u∈U):R U rel t=R U rel u↔rel t u=true/\rel u t=true:=by
  constructor
  · intro e;have h1:u∈R U rel t:=by rw [e];exact mem_R.mpr ⟨hu,p.rf u hu⟩
    have h2:t∈R U rel u:=by rw [<-e];exact mem_R.mpr ⟨ht,p.rf t ht⟩
    exact ⟨(mem_R.mp h1).2,(mem_R.mp h2).2⟩
  · rintro ⟨h1,h2⟩;unfold R;refine Ai2 λ x hx=> ?_;rw [Ae2];exact ⟨λ h=>p.tr u hu t ht x hx h2 h,λ h=>p.tr t ht u hu x hx h1 h⟩
theorem GH {p q:α->Bool}:∀ {l:List α},(∀ x∈l,p x=true->q x=true)->(l.filter p).length<=(l.filter q).length
  | [],_=>Aa6 _
  | a::l,h=>by
    have ih:=GH (l:=l) λ x hx=>h x (Ad1 _ hx);have ha:=h a (Ae1 ..);rw [Ae4,Ae4];cases hp:p a with
    | true=>rw [ha hp];simp only [if_true,Ad8];omega
    | false=>
      cases hq:q a with
      | true=>simp only [if_true,if_false,Ab9,Ad8];omega
      | false=>simpa using ih
theorem DF {p q:α->Bool}:∀ {l:List α},(∀ x∈l,p x=true->q x=true)->(l.filter p).length=(l.filter q).length->∀ x∈l,q x=true->p x=true
  | [],_,_,x,hx,_=>by cases hx
  | a::l,h,e,x,hx,hq=>by
    have h':∀ x∈l,p x=true->q x=true:=λ x hx=>h x (Ad1 _ hx);have le:=GH h';have ha:=h a (Ae1 ..);rw [Ae4,Ae4] at e;cases hp:p a with
    | true=>
      rw [hp,ha hp] at e;simp only [if_true,Ad8] at e;rcases Ac2.mp hx with z | z
      · rw [z];exact hp
      · exact DF h' (by omega) x z hq
    | false=>
      cases hqa:q a with
      | true=>
        rw [hp,hqa] at e;simp only [if_true,if_false,Ab9,Ad8] at e;omega
      | false=>
        rw [hp,hqa] at e;simp only [if_false,Ab9] at e;rcases Ac2.mp hx with z | z
        · rw [z,hqa] at hq;cases hq
        · exact DF h' e x z hq
structure St (U:List α) (rel:α->α->Bool) (Ls:List (List α)) (W:List (En α)) (told:List α):Prop where
  fl:told=Ls.flatten
  wk:∀ e∈W,e.2=grp U rel e.1/\∃ t∈U,e.1=R U rel t
  wn:(W.map (·.1)).Nodup
  cov:∀ t∈U,(∃ e∈W,e.1=R U rel t)\/t∈told
  dis:∀ t∈told,t∈U/\∀ e∈W,e.1≠R U rel t
  lay:∀ l∈Ls,∃ t∈U,l=grp U rel (R U rel t)
  ord:∀ (i:Nat) (l:List α) (t:α),Ls[i]?=some l->t∈l->∀ u∈R U rel t,∃ (j:Nat) (l':List α),j<=i/\Ls[j]?=some l'/\u∈l'
  nd:told.Nodup
section
variable {U:List α} {rel:α->α->Bool} {Ls:List (List α)} {W:List (En α)} {told:List α}
theorem MB (l:List α) (p:α->Bool):(l.filter p).length+(l.filter λ x=> !p x).length=l.length:=by
  induction l with
  | nil=>rfl
  | cons a l ih=>
    rw [Ae4,Ae4];cases p a <;> simp <;> omega
theorem St.own (p:Pre U rel) (s:St U rel Ls W told) {e:En α} (he:e∈W):∃ t∈U,e.1=R U rel t/\e.2=grp U rel (R U rel t)/\t∈e.2/\∀ x∈e.2,x∈U/\x∈e.1/\x∉told:=by
  obtain ⟨e2,t,ht,e1⟩:=s.wk e he;refine ⟨t,ht,e1,by rw [e2,e1],by rw [e2];exact mem_grp.mpr ⟨ht,e1.symm⟩,λ x hx=> ?_⟩;rw [e2] at hx;obtain ⟨hx1,hx2⟩:=mem_grp.mp hx;refine ⟨hx1,by rw [<-hx2];exact mem_R.mpr ⟨hx1,p.rf x hx1⟩,λ z=> ?_⟩;exact (s.dis x z).2 e he hx2.symm
theorem St.nx_iff (p:Pre U rel) (s:St U rel Ls W told) {e:En α} (he:e∈W):isNx e told=true↔∀ x∈e.1,x∈told\/x∈e.2:=by
  obtain ⟨t,ht,e1,e2,te,own⟩:=s.own p he;have hE1:e.1=U.filter (rel t):=e1;have key:(e.1.filter λ x=> !decide (x∈told))=U.filter λ x=>(!decide (x∈told)&&rel t x):=by rw [hE1,List.filter_filter]
  have key2:e.2=U.filter λ x=>decide (R U rel x=e.1):=by rw [e2,e1];rfl
  have imp:∀ x∈U,decide (R U rel x=e.1)=true->(!decide (x∈told)&&rel t x)=true:=λ x hx h=>by
    have hx2:x∈e.2:=by rw [key2];exact Ac7.mpr ⟨hx,h⟩
    obtain ⟨_,h1,h2⟩:=own x hx2;rw [e1] at h1;rw [decide_eq_false h2,(mem_R.mp h1).2];rfl
  have sp:=MB e.1 λ x=>decide (x∈told);unfold isNx;rw [decide_eq_true_iff];constructor
  · intro h x hx;by_cases z:x∈told
    · exact .inl z
    · have l1:(U.filter λ x=>decide (R U rel x=e.1)).length=(U.filter λ x=>(!decide (x∈told)&&rel t x)).length:=by rw [<-key, <-key2];omega
      rw [e1] at hx;obtain ⟨hx1,hx2⟩:=mem_R.mp hx;refine .inr ?_;rw [key2];exact Ac7.mpr ⟨hx1,DF imp l1 x hx1 (by rw [decide_eq_false z,hx2];rfl)⟩
  · intro h;have e3:(e.1.filter λ x=> !decide (x∈told))=e.2:=by
      rw [key,key2];refine Ai2 λ x hx=> ?_;rw [Ae2];refine ⟨λ q=> ?_,imp x hx⟩;simp only [Ag9,Bool.not_eq_true',decide_eq_false_iff_not] at q;rcases h x (by rw [e1];exact mem_R.mpr ⟨hx,q.2⟩) with z | z
      · exact absurd z q.1
      · rw [key2] at z;exact (Ac7.mp z).2
    rw [e3] at sp;exact sp
theorem St.next (p:Pre U rel) (s:St U rel Ls W told) (h:W≠[]):∃ e∈W,isNx e told=true:=by
  have:∀ n,∀ e∈W,e.1.length<=n->∃ e∈W,isNx e told=true:=by
    intro n
    induction n with
    | zero=>
      intro e he hl;obtain ⟨t,_,_,_,te,own⟩:=s.own p he;have:=(own t te).2.1;rw [List.eq_nil_of_length_eq_zero (Nat.le_zero.mp hl)] at this;cases this
    | succ n ih=>
      intro e he hl;by_cases hx:∀ x∈e.1,x∈told\/x∈e.2
      · exact ⟨e,he,(s.nx_iff p he).mpr hx⟩
      · obtain ⟨t,ht,e1,e2,te,own⟩:=s.own p he;obtain ⟨x,hx⟩:=Classical.not_forall.mp hx;obtain ⟨hx1,hx⟩:=Classical.not_imp.mp hx;have hx2:x∉told:=λ z=>hx (.inl z);have hx3:x∉e.2:=λ z=>hx (.inr z);rw [e1] at hx1;obtain ⟨xU,xr⟩:=mem_R.mp hx1;obtain ⟨e',he',e1'⟩:=(s.cov x xU).resolve_right hx2;have sub:∀ y∈U,rel x y=true->rel t y=true:=λ y hy h=>p.tr t ht x xU y hy xr h;have le:(R U rel x).length<=(R U rel t).length:=GH sub;have ne:(R U rel x).length≠(R U rel t).length:=λ z=>by
          have back:=DF sub z;have:R U rel x=R U rel t:=(R_eq p xU ht).mpr ⟨back t ht (p.rf t ht),xr⟩;exact hx3 (by rw [e2];exact mem_grp.mpr ⟨xU,this⟩)
        exact ih e' he' (by rw [e1'];rw [e1] at hl;omega)
  obtain ⟨e,he⟩:=List.exists_mem_of_ne_nil W h;exact this _ e he (Aa6 _)
theorem HC {β γ:Type} (f:β->γ) (l:List β) (i:Nat):(l.eraseIdx i).map f=(l.map f).eraseIdx i:=by
  induction l generalizing i with
  | nil=>rfl
  | cons a l ih=>
    cases i with
    | zero=>rfl
    | succ i=>simp [ih]
theorem Mi {β:Type} {l:List β} {i:Nat} {e x:β} (h:l[i]?=some e) (hx:x∈l):x=e\/x∈l.eraseIdx i:=by
  induction l generalizing i with
  | nil=>cases hx
  | cons a l ih=>
    cases i with
    | zero=>
      cases h;rcases Ac2.mp hx with z | z
      · exact .inl z
      · exact .inr z
    | succ i=>
      rcases Ac2.mp hx with z | z
      · exact .inr (by rw [z];exact Ae1 ..)
      · rcases ih h z with y | y
        · exact .inl y
        · exact .inr (Ad1 _ y)
theorem Jp {β:Type} {l:List β} {i:Nat} {e:β} (nd:l.Nodup) (h:l[i]?=some e):e∉l.eraseIdx i/\(l.eraseIdx i).Nodup:=by
  induction l generalizing i with
  | nil=>cases h
  | cons a l ih=>
    obtain ⟨n1,n2⟩:=Ag2.mp nd;cases i with
    | zero=>
      cases h;exact ⟨n1,n2⟩
    | succ i=>
      obtain ⟨m1,m2⟩:=ih n2 h;refine ⟨λ z=> ?_,Ag2.mpr ⟨λ z=>n1 (List.mem_of_mem_eraseIdx z),m2⟩⟩;rcases Ac2.mp z with y | y
      · rw [y] at h;exact n1 (Ad0 h)
      · exact m1 y
theorem St.step (p:Pre U rel) (ndU:U.Nodup) (s:St U rel Ls W told) {e:En α} {i:Nat} (hi:W[i]?=some e) (hn:isNx e told=true):St U rel (Ls++[e.2]) (W.eraseIdx i) (told++e.2):=by
  have he:=Ad0 hi;obtain ⟨t,ht,e1,e2,te,own⟩:=s.own p he;have nx:=(s.nx_iff p he).mp hn;have hk:(W.map (·.1))[i]?=some e.1:=by rw [Aa8,hi];rfl
  obtain ⟨m1,m2⟩:=Jp s.wn hk;have fromT:∀ u∈told,∃ (j:Nat) (l':List α),j<Ls.length/\Ls[j]?=some l'/\u∈l':=λ u hu=>by
    rw [s.fl] at hu;obtain ⟨l',h1,h2⟩:=List.mem_flatten.mp hu;obtain ⟨j,hj,rfl⟩:=List.getElem_of_mem h1;exact ⟨j,_,hj,Aa1 hj,h2⟩
  refine ⟨by rw [List.flatten_append, <-s.fl];simp,λ f hf=>s.wk f (List.mem_of_mem_eraseIdx hf),by rw [HC];exact m2,λ x hx=> ?_,λ x hx=> ?_,λ l hl=> ?_,λ j l x hj hx u hu=> ?_,?_⟩
  · rcases s.cov x hx with ⟨f,hf,ef⟩ | z
    · rcases Mi hi hf with y | y
      · refine .inr (Ac1 _ ?_);rw [e2, <-e1, <-y,ef];exact mem_grp.mpr ⟨hx,rfl⟩
      · exact .inl ⟨f,y,ef⟩
    · exact .inr (Ah5 _ z)
  · rcases Ac4.mp hx with z | z
    · exact ⟨(s.dis x z).1,λ f hf=>(s.dis x z).2 f (List.mem_of_mem_eraseIdx hf)⟩
    · refine ⟨(own x z).1,λ f hf q=>m1 ?_⟩;rw [e2] at z;rw [e1, <-(mem_grp.mp z).2, <-q, <-HC];exact Ab2.mpr ⟨f,hf,rfl⟩
  · rcases Ac4.mp hl with z | z
    · exact s.lay l z
    · rw [Ab7.mp z];exact ⟨t,ht,e2⟩
  · by_cases hj':j<Ls.length
    · rw [Ab5 hj'] at hj;obtain ⟨j2,l',h1,h2,h3⟩:=s.ord j l x hj hx u hu;exact ⟨j2,l',h1,by rw [Ab5 (by omega)];exact h2,h3⟩
    · have ej:j=Ls.length:=by
        have:=(Ab1.mp hj).1;simp at this;omega
      subst ej;rw [Ag4] at hj;cases hj;have hxu:u∈e.1:=by
        rw [e2] at hx;rw [e1, <-(mem_grp.mp hx).2];exact hu
      rcases nx u hxu with z | z
      · obtain ⟨j2,l',h1,h2,h3⟩:=fromT u z;exact ⟨j2,l',Ai4 h1,by rw [Ab5 h1];exact h2,h3⟩
      · exact ⟨Ls.length,e.2,Aa6 _,Ag4,z⟩
  · refine Ah0.mpr ⟨s.nd,?_,λ a ha b hb q=>(own b hb).2.2 (q▸ha)⟩;rw [e2];exact ndU.filter _
def put (E:List (En α)) (k:List α) (t:α):List (En α):=if k∈E.map (·.1) then E.map (λ e=>if e.1=k then (e.1,e.2++[t]) else e) else E++[(k,[t])]
structure Gr (U:List α) (rel:α->α->Bool) (D:List α) (E:List (En α)):Prop where
  wk:∀ e∈E,e.2=D.filter (λ t=>decide (R U rel t=e.1))/\∃ t∈U,e.1=R U rel t
  wn:(E.map (·.1)).Nodup
  cov:∀ t∈D,∃ e∈E,e.1=R U rel t
theorem Gq (E:List (En α)) (k:List α) (t:α):(put E k t).map (·.1)=if k∈E.map (·.1) then E.map (·.1) else E.map (·.1)++[k]:=by
  unfold put;split
  · rw [Ac8];refine Af6 λ e _=> ?_;show (if e.1=k then (e.1,e.2++[t]) else e).1=e.1;split <;> rfl
  · rw [Ac5];rfl
theorem Gr.nil (U:List α) (rel:α->α->Bool):Gr U rel [] []:=⟨λ _ h=>by (cases h),List.nodup_nil,λ _ h=>by (cases h)⟩
theorem Gr.put {D:List α} {E:List (En α)} {t:α} (g:Gr U rel D E) (ht:t∈U):Gr U rel (D++[t]) (put E (R U rel t) t) where
  wk:=λ e he=>by
    have fa:∀ k:List α,(D++[t]).filter (λ u=>decide (R U rel u=k))=D.filter (λ u=>decide (R U rel u=k))++(if R U rel t=k then [t] else []):=λ k=>by
      rw [Ad6];congr 1;by_cases z:R U rel t=k
      · rw [if_pos z,Ae4,if_pos (decide_eq_true z)];rfl
      · rw [if_neg z,Ae4,if_neg (by simpa using z)];rfl
    unfold ML.put at he;split at he
    · obtain ⟨f,hf,rfl⟩:=Ab2.mp he;obtain ⟨w1,w2⟩:=g.wk f hf;by_cases z:f.1=R U rel t
      · rw [if_pos z];refine ⟨?_,w2⟩;show f.2++[t]=_;rw [fa,if_pos z.symm, <-w1]
      · rw [if_neg z];refine ⟨?_,w2⟩;rw [fa,if_neg (λ q=>z q.symm),Ah8];exact w1
    · rename_i hk
      rcases Ac4.mp he with z | z
      · obtain ⟨w1,w2⟩:=g.wk e z;refine ⟨?_,w2⟩;rw [fa,if_neg (λ q=>hk (Ab2.mpr ⟨e,z,q.symm⟩)),Ah8];exact w1
      · rw [Ab7.mp z];refine ⟨?_,t,ht,rfl⟩;show [t]=_;rw [fa,if_pos rfl];have:D.filter (λ u=>decide (R U rel u=R U rel t))=[]:=Aj9.mpr λ u hu q=>by
          obtain ⟨f,hf,ef⟩:=g.cov u hu;exact hk (Ab2.mpr ⟨f,hf,by rw [ef];exact of_decide_eq_true q⟩)
        rw [this];rfl
  wn:=by
    rw [Gq];split
    · exact g.wn
    · rename_i hk
      refine Ah0.mpr ⟨g.wn,by simp,λ a ha b hb q=>hk ?_⟩;rw [Ab7.mp hb] at q;rw [<-q];exact ha
  cov:=λ u hu=>by
    have key:∀ k:List α,(k∈E.map (·.1)\/k=R U rel t)->∃ e∈ML.put E (R U rel t) t,e.1=k:=λ k hk=>by
      have:k∈(ML.put E (R U rel t) t).map (·.1):=by
        rw [Gq];split
        · rename_i h
          rcases hk with z | z
          · exact z
          · rw [z];exact h
        · rcases hk with z | z
          · exact Ah5 _ z
          · exact Ac1 _ (Ab7.mpr z)
      obtain ⟨e,he,ee⟩:=Ab2.mp this;exact ⟨e,he,ee⟩
    rcases Ac4.mp hu with z | z
    · obtain ⟨e,he,ee⟩:=g.cov u z;exact key _ (.inl (Ab2.mpr ⟨e,he,ee⟩))
    · rw [Ab7.mp z];exact key _ (.inr rfl)
theorem Gr.st {E:List (En α)} (g:Gr U rel U E):St U rel [] E []:=
  ⟨rfl,λ e he=>g.wk e he,g.wn,λ t ht=> .inl (g.cov t ht),λ _ h=>by (cases h),λ _ h=>by (cases h),λ i l t h=>by (simp at h),List.nodup_nil⟩
end
end ML
namespace ML
variable {α:Type} [DecidableEq α] {U:List α} {rel:α->α->Bool}
theorem uniq:∀ {Ls:List (List α)},Ls.flatten.Nodup->∀ (i j:Nat) (l m:List α) (t:α),Ls[i]?=some l->Ls[j]?=some m->t∈l->t∈m->i=j
  | [],_,i,_,_,_,_,h,_,_,_=>by simp at h
  | a::Ls,nd,i,j,l,m,t,h1,h2,t1,t2=>by
    rw [Aj7,Ah0] at nd;have no:∀ (k:Nat) (x:List α),Ls[k]?=some x->t∈x->t∈a->False:=λ k x hk hx ha=>nd.2.2 t ha t (List.mem_flatten.mpr ⟨x,Ad0 hk,hx⟩) rfl;cases i with
    | zero=>
      cases h1;cases j with
      | zero=>rfl
      | succ j=>exact (no j m h2 t2 t1).elim
    | succ i=>
      cases j with
      | zero=>
        cases h2;exact (no i l h1 t1 t2).elim
      | succ j=>rw [uniq nd.2.1 i j l m t h1 h2 t1 t2]
def lvl (Ls:List (List α)) (t:α):Nat:=Ls.findIdx λ l=>decide (t∈l)
theorem lvl_at {Ls:List (List α)} (nd:Ls.flatten.Nodup) {i:Nat} {l:List α} {t:α} (h:Ls[i]?=some l) (ht:t∈l):lvl Ls t=i:=by
  have hx:∃ x∈Ls,decide (t∈x)=true:=⟨l,Ad0 h,decide_eq_true ht⟩;have hl:Ls.findIdx (λ l=>decide (t∈l))<Ls.length:=List.findIdx_lt_length_of_exists hx;have hg:=List.findIdx_getElem (w:=hl);exact uniq nd _ _ _ _ t (Aa1 hl) h (of_decide_eq_true hg) ht
section
variable {Ls:List (List α)} {told:List α}
theorem St.all_in (s:St U rel Ls [] told) {t:α} (ht:t∈U):∃ (i:Nat) (l:List α),Ls[i]?=some l/\t∈l:=by
  rcases s.cov t ht with ⟨e,he,_⟩ | z
  · cases he
  · rw [s.fl] at z;obtain ⟨l,h1,h2⟩:=List.mem_flatten.mp z;obtain ⟨i,hi⟩:=Af4.mp h1;exact ⟨i,l,hi,h2⟩
theorem St.ndf (s:St U rel Ls [] told):Ls.flatten.Nodup:=s.fl▸s.nd
theorem St.grp_of (p:Pre U rel) (s:St U rel Ls [] told) {i:Nat} {l:List α} {t:α} (h:Ls[i]?=some l) (ht:t∈l):t∈U/\l=grp U rel (R U rel t):=by
  obtain ⟨x,hx,e⟩:=s.lay l (Ad0 h);rw [e] at ht;have:=mem_grp.mp ht;exact ⟨this.1,by rw [e,this.2]⟩
theorem St.lvl_eq (p:Pre U rel) (s:St U rel Ls [] told) {t u:α} (ht:t∈U) (hu:u∈U):lvl Ls t=lvl Ls u↔rel t u=true/\rel u t=true:=by
  obtain ⟨i,l,h1,h2⟩:=s.all_in ht;obtain ⟨j,m,h3,h4⟩:=s.all_in hu;rw [lvl_at s.ndf h1 h2,lvl_at s.ndf h3 h4, <-R_eq p ht hu];obtain ⟨_,e1⟩:=s.grp_of p h1 h2;obtain ⟨_,e2⟩:=s.grp_of p h3 h4;constructor
  · rintro rfl;rw [h1] at h3;cases h3;rw [e1] at h4;exact (mem_grp.mp h4).2.symm
  · intro e;refine uniq s.ndf i j l m u h1 h3 ?_ h4;rw [e1];exact mem_grp.mpr ⟨hu,e.symm⟩
theorem St.lvl_ord (s:St U rel Ls [] told) {t u:α} (ht:t∈U) (hu:u∈U) (h:rel t u=true):lvl Ls u<=lvl Ls t:=by
  obtain ⟨i,l,h1,h2⟩:=s.all_in ht;obtain ⟨j,m,hj,h3,h4⟩:=s.ord i l t h1 h2 u (mem_R.mpr ⟨hu,h⟩);rw [lvl_at s.ndf h1 h2,lvl_at s.ndf h3 h4];exact hj
theorem St.perm (p:Pre U rel) (nd:U.Nodup) (s:St U rel Ls [] told):Ls.flatten.Perm U:=by
  refine (List.perm_ext_iff_of_nodup s.ndf nd).mpr λ t=> ?_;constructor
  · intro h;rw [<-s.fl] at h;exact (s.dis t h).1
  · intro h;obtain ⟨i,l,h1,h2⟩:=s.all_in h;exact List.mem_flatten.mpr ⟨l,Ad0 h1,h2⟩
theorem St.ne (p:Pre U rel) (s:St U rel Ls [] told) {i:Nat} {l:List α} (h:Ls[i]?=some l):∃ t∈U,t∈l:=by
  obtain ⟨x,hx,e⟩:=s.lay l (Ad0 h);exact ⟨x,hx,by rw [e];exact mem_grp.mpr ⟨hx,rfl⟩⟩
end
end ML
namespace ML
section
variable {β:Type} [DecidableEq β]
def firsts (l:List β):List β:=l.foldl (λ acc k=>if k∈acc then acc else acc++[k]) []
theorem firsts_snoc (l:List β) (k:β):firsts (l++[k])=if k∈firsts l then firsts l else firsts l++[k]:=by
  unfold firsts;rw [List.foldl_append];rfl
theorem Ke (l:List β) (k:β):k∈firsts l↔k∈l:=by
  induction l using MM.snoc_ind with
  | h0=>exact Iff.rfl
  | h1 l a ih=>
    rw [firsts_snoc,Ac4,Ab7, <-ih];by_cases c:a∈firsts l
    · rw [if_pos c];exact ⟨.inl,λ h=>h.elim id λ z=>z▸c⟩
    · rw [if_neg c,Ac4,Ab7]
theorem MQ (l:List β):(firsts l).Nodup:=by
  induction l using MM.snoc_ind with
  | h0=>exact List.nodup_nil
  | h1 l a ih=>
    rw [firsts_snoc];by_cases c:a∈firsts l
    · rw [if_pos c];exact ih
    · rw [if_neg c];refine Ah0.mpr ⟨ih,by simp,λ x hx y hy q=>c ?_⟩;rw [<-Ab7.mp hy, <-q];exact hx
theorem EI:∀ {l:List β} {i:Nat} {e:β},l.Nodup->l[i]?=some e->l.eraseIdx i=l.filter λ x=>decide (x≠e)
  | [],i,e,_,h=>by simp at h
  | a::l,0,e,nd,h=>by
    cases h;obtain ⟨n1,n2⟩:=Ag2.mp nd;rw [List.eraseIdx_cons_zero,Ae4,if_neg (by simp)];symm;rw [List.filter_eq_self];intro x hx;exact decide_eq_true λ z=>n1 (z▸hx)
  | a::l,i+1,e,nd,h=>by
    obtain ⟨n1,n2⟩:=Ag2.mp nd;have h:l[i]?=some e:=h;have ne:a≠e:=λ z=>n1 (z▸Ad0 h);rw [List.eraseIdx_cons_succ,Ae4,if_pos (decide_eq_true ne),EI n2 h]
end
section
variable {α:Type} [DecidableEq α] {U:List α} {rel:α->α->Bool}
def parts (U:List α) (rel:α->α->Bool):List (En α):=(firsts (U.map (R U rel))).map λ k=>(k,grp U rel k)
theorem Gr.parts {E:List (En α)} (g:Gr U rel U E) (hk:E.map (·.1)=firsts (U.map (R U rel))):E=parts U rel:=by
  unfold ML.parts;rw [<-hk,Ac8];have:E.map id=E.map ((λ k=>(k,grp U rel k))∘λ x=>x.1):=Af6 λ e he=>by
    show e=(e.1,grp U rel e.1);have:=(g.wk e he).1;exact Prod.ext rfl this
  rwa [List.map_id] at this
def nt (told:List α) (e:En α):Bool:=decide (∀ x∈e.2,x∉told)
def nx (told:List α) (e:En α):Bool:=decide (∀ x∈e.1,x∈told\/x∈e.2)
def rdy (told:List α) (e:En α):Bool:=nt told e&&nx told e
structure Due (U:List α) (rel:α->α->Bool) (Ls:List (List α)):Prop where
  len:Ls.length=(parts U rel).length
  at_:∀ (i:Nat) (l:List α),Ls[i]?=some l->∃ e,(parts U rel).find? (rdy (Ls.take i).flatten)=some e/\l=e.2
theorem Due.uniq {Ls Ms:List (List α)} (a:Due U rel Ls) (b:Due U rel Ms):Ls=Ms:=by
  have hl:Ls.length=Ms.length:=a.len.trans b.len.symm;have key:∀ i,Ls.take i=Ms.take i:=by
    intro i
    induction i with
    | zero=>rfl
    | succ i ih=>
      rw [List.take_add_one,List.take_add_one,ih];congr 1;rcases Ad4 i Ls.length with z | z
      · obtain ⟨e,h1,h2⟩:=a.at_ i _ (Aa1 z);obtain ⟨f,h3,h4⟩:=b.at_ i _ (Aa1 (hl▸z));rw [ih,h3] at h1;cases h1;rw [Aa1 z,Aa1 (hl▸z),h2,h4]
      · rw [Ah3 z,Ah3 (hl▸z)]
  have:=key Ls.length
  rwa [Af2,hl,Af2] at this
structure Sq (U:List α) (rel:α->α->Bool) (Ls:List (List α)) (W:List (En α)) (told:List α):Prop where
  st:St U rel Ls W told
  wq:W=(parts U rel).filter (nt told)
  len:Ls.length+W.length=(parts U rel).length
  at_:∀ (i:Nat) (l:List α),Ls[i]?=some l->∃ e,(parts U rel).find? (rdy (Ls.take i).flatten)=some e/\l=e.2
theorem Sq.zero (s:St U rel [] (parts U rel) []):Sq U rel [] (parts U rel) [] where
  st:=s
  wq:=by
    symm;rw [List.filter_eq_self];intro e _;exact decide_eq_true λ x _ h=>by cases h
  len:=by simp
  at_:=λ i l h=>by simp at h
theorem parts_nd:(parts U rel).Nodup:=by
  unfold parts;refine List.Pairwise.map _ (λ a b h z=>h ?_) (MQ _);exact congrArg Prod.fst z
theorem Jv {e:En α} (h:e∈parts U rel):e.2=grp U rel e.1/\∃ t∈U,e.1=R U rel t:=by
  unfold parts at h;obtain ⟨k,hk,rfl⟩:=Ab2.mp h;obtain ⟨t,ht,rfl⟩:=Ab2.mp ((Ke _ _).mp hk);exact ⟨rfl,t,ht,rfl⟩
theorem Sq.step {Ls:List (List α)} {W:List (En α)} {told:List α} (p:Pre U rel) (ndU:U.Nodup) (s:Sq U rel Ls W told) {e:En α} {i:Nat} (hi:W[i]?=some e) (hn:isNx e told=true) (mn:∀ (j:Nat) (e':En α),j<i->W[j]?=some e'->isNx e' told=false):Sq U rel (Ls++[e.2]) (W.eraseIdx i) (told++e.2):=by
  have hiW:=(Ab1.mp hi).1;have he:=Ad0 hi;have nxe:∀ f∈W,isNx f told=nx told f:=λ f hf=>by
    rw [Ae2,s.st.nx_iff p hf];unfold nx;rw [decide_eq_true_iff]
  have hfind:(parts U rel).find? (rdy told)=some e:=by
    have e1:(parts U rel).find? (rdy told)=W.find? (nx told):=by
      rw [s.wq,List.find?_filter];congr 1;funext a;unfold rdy;rw [Bool.decide_and,Bool.decide_eq_true,Bool.decide_eq_true]
    rw [e1,List.find?_eq_some_iff_getElem];refine ⟨by rw [<-nxe e he];exact hn,i,hiW,(Ab1.mp hi).2,λ j hj=> ?_⟩;have hjW:j<W.length:=by omega
    have:=mn j W[j] hj (Aa1 hjW);rw [nxe _ (Ad9 hjW)] at this;rw [this];rfl
  have hW:W.Nodup:=by rw [s.wq];exact parts_nd.filter _
  have hep:e∈parts U rel:=by rw [s.wq] at he;exact (Ac7.mp he).1
  refine ⟨s.st.step p ndU hi hn,?_,?_,λ j l hj=> ?_⟩
  · rw [EI hW hi]
    conv=>lhs;rw [s.wq]
    rw [List.filter_filter];refine Ai2 λ f hf=> ?_;obtain ⟨f2,_,_,f1⟩:=Jv hf;obtain ⟨e2,t,ht,e1⟩:=Jv hep;by_cases c:f=e
    · subst c;have h1:nt (told++f.2) f=false:=decide_eq_false λ z=>by
        have:t∈f.2:=by rw [e2,e1];exact mem_grp.mpr ⟨ht,rfl⟩
        exact z t this (Ac1 _ this)
      rw [h1];simp
    · have h1:nt (told++e.2) f=nt told f:=by
        unfold nt;rw [decide_eq_decide];refine ⟨λ z x hx q=>z x hx (Ah5 _ q),λ z x hx q=> ?_⟩;rcases Ac4.mp q with q | q
        · exact z x hx q
        · rw [f2] at hx;rw [e2] at q;have k1:=(mem_grp.mp hx).2;have k2:=(mem_grp.mp q).2;exact c (Prod.ext (k1.symm.trans k2) (by rw [f2,e2, <-k1, <-k2]))
      rw [h1,decide_eq_true c,Bool.true_and]
  · have:=s.len;have h2:=List.length_eraseIdx_of_lt hiW;rw [Ab0,Af3];omega
  · rcases Ad4 j Ls.length with z | z
    · rw [Ab5 z] at hj;rw [List.take_append_of_le_length (Ai4 z)];exact s.at_ j l hj
    · have ej:j=Ls.length:=by
        have:=(Ab1.mp hj).1;simp at this;omega
      subst ej;rw [Ag4] at hj;cases hj;rw [List.take_left, <-s.st.fl];exact ⟨e,hfind,rfl⟩
structure Gk (U:List α) (rel:α->α->Bool) (D:List α) (E:List (En α)):Prop where
  gr:Gr U rel D E
  ks:E.map (·.1)=firsts (D.map (R U rel))
section
variable {D:List α} {E:List (En α)}
theorem Gk.nil (U:List α) (rel:α->α->Bool):Gk U rel [] []:=⟨Gr.nil U rel,rfl⟩
theorem Gk.put {t:α} (g:Gk U rel D E) (ht:t∈U):Gk U rel (D++[t]) (put E (R U rel t) t):=⟨g.gr.put ht,by
  rw [Gq,g.ks,Ac5];show _=firsts (D.map (R U rel)++[R U rel t]);rw [firsts_snoc];by_cases c:R U rel t∈firsts (D.map (R U rel))
  · rw [if_pos c,if_pos c]
  · rw [if_neg c,if_neg c]⟩
theorem Gk.wn (g:Gk U rel D E):(E.map (·.1)).Nodup:=g.gr.wn
theorem Gk.wk (g:Gk U rel D E):∀ e∈E,e.2=D.filter (λ t=>decide (R U rel t=e.1))/\∃ t∈U,e.1=R U rel t:=g.gr.wk
theorem Gk.sq (g:Gk U rel U E):Sq U rel [] E []:=by
  have st:=g.gr.st;have e:=g.gr.parts g.ks;rw [e] at st ⊢;exact Sq.zero st
end
theorem Sq.due {Ls:List (List α)} {told:List α} (s:Sq U rel Ls [] told):Due U rel Ls:=⟨by have:=s.len;simpa using this,s.at_⟩
end
end ML
open L2
local macro_rules | `(tactic| walk_at "t") => `(tactic| first | (with_reducible first | refine RP ?_ | refine SQ ?_ | refine OX ?_ | refine Xl ?_ | refine Ux ?_ | refine WV ?_ | refine RD ?_ | refine Uz ?_ | refine SU ?_ | refine Q9 ?_ | refine RU ?_ | refine RF ?_ | refine RG ?_ | refine Ss ?_ | refine PJ ?_ | refine VZ ?_ | refine T8 ?_ | refine VG ?_ | refine Sm ?_ | refine PB ?_ | refine Pb ?_ | refine Vs ?_ | refine S4 ?_ | refine P4 ?_ | refine Rb ?_ | refine P2 ?_ | refine Rh ?_ | refine SA ?_ | refine Vp ?_ | refine P9 ?_ | refine VD ?_ | refine Qe ?_ | refine LT ?_ | refine S7 ?_ | refine Gy ?_ | refine Gg ?_ | refine Qh ?_ | refine OY ?_ | refine NK ?_ | refine P6 ?_ | refine RW ?_ | refine Mh ?_ | refine Pn ?_ | refine RK ?_ | refine VP ?_ | refine MY ?_ | refine Pp ?_ | refine SY ?_ | refine WY ?_ | refine UX ?_ | refine Wh ?_ | refine Wa ?_ | refine U5 ?_ | refine VE ?_ | refine Vt ?_ | refine N6 ?_ | refine Qn ?_ | refine RO ?_ | refine NF ?_ | refine J2 ?_ | refine OB ?_ | refine RB ?_ | refine Sa ?_ | refine O6 ?_ | refine Pc ?_) | ((with_reducible apply Sy); exact rfl) | (with_reducible refine Rr (by simp only [List.length_cons, List.length_nil]; decide) ?_))
local macro_rules | `(tactic| walk_at "s") => `(tactic| first | walk_at "t" | (with_reducible refine Rn ?_))
local macro_rules | `(tactic| walk_at "w") => `(tactic| repeat walk_at "s")
local macro_rules | `(tactic| wrow_has $H $n) => do let t := ((n.getId.toString.drop 1).toString); let i := λ (a : String) => Lean.mkIdent (Lean.Name.mkSimple (a ++ t)); `(tactic| (generalize e : upd $H $(i "p") _ = $(i "H"); have $(i "s"):ident : Same $H $(i "H") := (by rw [<-e]; exact Af $(i "n")); have $(i "g"):ident := (congrFun e $(i "p")).symm.trans Ac; clear e))
local macro_rules | `(tactic| row_lines $H $n) => do let t := ((n.getId.toString.drop 1).toString); let i := λ (a : String) => Lean.mkIdent (Lean.Name.mkSimple (a ++ t)); `(tactic| (intro $(i "p"):ident $(i "n"):ident; wrow_has $H $n))
local macro_rules | `(tactic| walk_at "x") => `(tactic| repeat first | walk_at "s" | (with_reducible refine Az (by decide) ?_))
namespace K28
open PySem L2 PySem.Spec PyProof.Rows
seal L2.PE L2.PT L2.PW L2.PA L2.PS L2.PSs L2.PI L2.PG L2.PTs L2.PGs
section
variable {P:Program} {w:World} {K:PySem.W.Frag} {mg:Str->Option Value} {base:Heap}
structure Cs where
  Cloth:Addr
structure Txt (K:PySem.W.Frag) (mg:Str->Option Value) (c:Cs):Prop where
  own:Own mg ["isinstance","int","bool","list","tuple","len","all","range","sum","enumerate","sorted"]
  g_Cloth:mg "Cloth"=some (.ref c.Cloth)
  kd_Cloth:Kind K c.Cloth
  is_Cloth:PySem.W.kitOne K (.ref c.Cloth) (.ref c.Cloth)=some true
  na_Cloth_width:NoAttr K c.Cloth "width"
  na_Cloth_rows:NoAttr K c.Cloth "rows"
  k_MOST_ENDS:∃ t,mg "MOST_ENDS"=some (.int 60 t)
  k_MOST_PICKS:∃ t,mg "MOST_PICKS"=some (.int 60 t)
  k_END:∃ t,mg "END"=some (.str "end" t)
  k_PICK:∃ t,mg "PICK"=some (.str "pick" t)
def KY (K:PySem.W.Frag):Sp:=λ vs H Q _=>∃ (a:Addr) (ns:List Int),vs=[.ref a]/\SqL K H a (ns.map V.int)/\ns.length<=63/\∀ H',Q (.bl true) H'
end
section
variable {P:Program} {w:World} {K:PySem.W.Frag} {mg:Str->Option Value} {base:Heap} {c:Cs}
def E9:Sp:=λ vs H Q _=>∃ n:Nat,vs=[.int n]/\1<=n/\n<=1000/\Q (.int ((2 ^ (n - 1):Nat):Int)) H
abbrev Gm:Stmt:=top 6
theorem Mr:FnScope ["number"] ["number"] (Ai Gm):=⟨rfl,rfl,rfl,by decide +kernel,rfl,by decide +kernel,by decide +kernel⟩
theorem Ml {f:Addr} {fd:FuncData} (F:Fun K "bit_of" "bit_of" Gm f fd) (T:Txt K mg c):FnOk P w K mg base CX0 1 f fd ["number"] E9:=by
  refine F.ok Mr (λ vs H Q E h=> ?_) (λ cdv A outer s H vs Q E hr h=> ?_)
  · obtain ⟨n,rfl,_⟩:=h;rfl
  · obtain ⟨n,rfl,h1,h2,q⟩:=h;refine ⟨_,(Ae (An (Al Eg Ag (Al CT (pv 0) Ag)))),?_⟩;walk_at "w";refine Az ⟨by omega,by omega,by decide⟩ ?_;rw [show ((n:Int) - 1).toNat=n - 1 by omega,JH];exact q
def Eh (K:PySem.W.Frag):Sp:=λ vs H Q _=>∃ tp a,∃ ns:List Nat,vs=[.ref a]/\SqS tp K H a (ns.map nV)/\(∀ n∈ns,1<=n/\n<=1000)/\∀ H',Same H H'->Q (.int ((MM.mOf ns:Nat):Int)) H'
abbrev ES:Stmt:=top 7
theorem sc_mask_of:FnScope ["numbers","mask","number"] ["numbers"] (Ai ES):=⟨rfl,rfl,rfl,by decide +kernel,rfl,by decide +kernel,by decide +kernel⟩
theorem Kx {f:Addr} {fd:FuncData} (F:Fun K "mask_of" "mask_of" ES f fd) (T:Txt K mg c) (c_bit_of:CallF P w K mg base "bit_of" 1 ["number"] E9):FnOk P w K mg base CX0 2 f fd ["numbers"] (Eh K):=by
  refine F.ok sc_mask_of (λ vs H Q E h=> ?_) (λ cdv A outer s H vs Q E hr h=> ?_)
  · obtain ⟨tp,a,ns,rfl,_⟩:=h;rfl
  · obtain ⟨tp,a,ns,rfl,sa,hn,q⟩:=h;refine ⟨_,(Ad (Aq (i:=1) sc_mask_of.nd rfl (Or.inl rfl) Ag)
      (Ad (AQ PassesOwn.never rfl (U8 (K:=K) (pv 0)) (Ar (i:=2) sc_mask_of.nd rfl (Or.inl rfl)) (Ae (Of (i:=1) sc_mask_of.nd rfl (Or.inl rfl) (Ah c_bit_of hr (Aa (pv 2) Ab)) Sb)))
      (Ae (An (pv 1))))),?_⟩
    walk_at "w";refine ⟨tp,a,rfl,⟨_,sa⟩,Dz (Qr sa) (λ i σ H3=>∃ x,σ=[some (.ref a),some (.int ((MM.mOf (ns.take i):Nat):Int)),x]/\Same H H3) ⟨_,rfl,Same.refl _⟩ (λ i σ H3 ⟨_,_,s⟩=>s) ?_ ?_⟩
    · rintro i σ H' H3 hi ⟨x,rfl,s'⟩ s3;have hi':i<ns.length:=by simpa using hi
      have hm:ns.getD i 0∈ns:=by rw [Aa0,Aa1 hi'];exact Ad9 hi'
      rw [AA hi];walk_at "w";refine Rl rfl ?_;walk_at "w";refine ⟨_,rfl,(hn _ hm).1,(hn _ hm).2,?_⟩;walk_at "w";rw [bO, <-MM.mOf_snoc, <-L3 hi'];exact ⟨_,rfl,s'.trans s3⟩
    · rintro σ H3 ⟨x,rfl,s3⟩;walk_at "w";rw [Aa2,Af2];exact q H3 s3
def DZ:Sp:=λ vs H Q _=>∃ n:Nat,vs=[.int n]/\n<=1000/\Q (.int ((2 ^ n - 1:Nat):Int)) H
abbrev EW:Stmt:=top 8
theorem Ku:FnScope ["most"] ["most"] (Ai EW):=⟨rfl,rfl,rfl,by decide +kernel,rfl,by decide +kernel,by decide +kernel⟩
theorem J6 {f:Addr} {fd:FuncData} (F:Fun K "mask_to" "mask_to" EW f fd) (T:Txt K mg c):FnOk P w K mg base CX0 1 f fd ["most"] DZ:=by
  refine F.ok Ku (λ vs H Q E h=> ?_) (λ cdv A outer s H vs Q E hr h=> ?_)
  · obtain ⟨n,rfl,_⟩:=h;rfl
  · obtain ⟨n,rfl,h1,q⟩:=h;refine ⟨_,(Ae (An (Al CT (Al Eg Ag (pv 0)) Ag))),?_⟩;walk_at "w";refine Az ⟨by omega,by omega,by decide⟩ ?_;walk_at "w";have hp:0<2 ^ n:=Nat.two_pow_pos n;rw [show ((n:Int)).toNat=n by omega,JH,show ((2 ^ n:Nat):Int) - 1=((2 ^ n - 1:Nat):Int) by omega];exact q
def Bx:Sp:=λ vs H Q _=>∃ m n:Nat,vs=[.int m, .int n]/\1<=n/\n<=1000/\Q (.bl (m.testBit (n - 1))) H
theorem Pa (m i:Nat):(!decide (((m &&& 2 ^ i:Nat):Int)=0))=m.testBit i:=by
  have e:(m &&& 2 ^ i)=(m.testBit i).toNat*2 ^ i:=by
    refine Aj4 λ j=> ?_;rw [Nat.testBit_and,Nat.testBit_two_pow];by_cases h:i=j
    · subst h;cases hb:m.testBit i <;> simp
    · cases hb:m.testBit i <;> simp [h,Nat.testBit_two_pow]
  rw [e];have hp:0<2 ^ i:=Nat.two_pow_pos i;cases m.testBit i with
  | false=>simp
  | true=>
    rw [decide_eq_false (by rw [Bool.toNat_true];omega)];rfl
abbrev CF:Stmt:=top 9
theorem Ho:FnScope ["mask","number"] ["mask","number"] (Ai CF):=⟨rfl,rfl,rfl,by decide +kernel,rfl,by decide +kernel,by decide +kernel⟩
theorem Hm {f:Addr} {fd:FuncData} (F:Fun K "has_number" "has_number" CF f fd) (T:Txt K mg c) (c_bit_of:CallF P w K mg base "bit_of" 1 ["number"] E9):FnOk P w K mg base CX0 2 f fd ["mask","number"] Bx:=by
  refine F.ok Ho (λ vs H Q E h=> ?_) (λ cdv A outer s H vs Q E hr h=> ?_)
  · obtain ⟨m,n,rfl,_⟩:=h;rfl
  · obtain ⟨m,n,rfl,h1,h2,q⟩:=h;refine ⟨_,(Ae (An (EA IU (Al JZ (pv 0) (Ah c_bit_of hr (Aa (pv 1) Ab))) Ag (Aw _)))),?_⟩;walk_at "w";refine ⟨n,rfl,h1,h2,?_⟩;walk_at "w";rw [bA,Pa];exact q
def DO:Sp:=λ vs H Q _=>∃ m:Nat,vs=[.int m]/\m<2 ^ 900/\∀ H' p,Same H H'->H p=none->H' p=some (.lst ((MM.nOf m).map nV))->Q (.ref p) H'
abbrev CI:Stmt:=top 10
theorem Hx:FnScope ["mask"] ["mask"] (Ai CI):=⟨rfl,rfl,rfl,by decide +kernel,rfl,by decide +kernel,by decide +kernel⟩
theorem Hk {f:Addr} {fd:FuncData} (F:Fun K "numbers_of" "numbers_of" CI f fd) (T:Txt K mg c) (c_has_number:CallF P w K mg base "has_number" 2 ["mask","number"] Bx):FnOk P w K mg base CX0 3 f fd ["mask"] DO:=by
  refine F.ok Hx (λ vs H Q E h=> ?_) (λ cdv A outer s H vs Q E hr h=> ?_)
  · obtain ⟨m,rfl,_⟩:=h;rfl
  · obtain ⟨m,rfl,h1,q⟩:=h;have hb:=MM.bits_le h1;refine ⟨_,(Ae (An (AK (L1 rfl (T.own _ (by decide)) (Aa Ag (Aa (Al AC (Se (K:=K) PySem.F.plainAttrs_int PySem.F.slot_int_bit_length PySem.F.type_int_bit_length Hr (pv 0)) Ag) Ab))) (λ _ _ _ _=>(B8 (Bu (Ah c_has_number hr (Aa (pv 1) (Aa (pv 0) Ab)))))) (λ _ _ _ _=>(pv 0))))),?_⟩;walk_at "w";refine tyI ?_;refine P5 ?_;walk_at "w";refine ⟨_,_,rfl,⟨by decide,by decide,by omega,by omega⟩,λ D hD=> ?_⟩;rw [show ((MM.bits m:Nat)+1 - 1:Int).toNat=MM.bits m by omega];refine Be (p:=m.testBit) (G:=λ i=>1+(i:Int)) (HU rfl) hD (by omega) ?_ ?_ ?_
    · intro i H' R hi s k;walk_at "w";refine ⟨m,i+1,by rw [show (1:Int)+(i:Nat)=((i+1:Nat):Int) by omega],by omega,by omega,?_⟩;rw [show i+1 - 1=i by omega];exact ⟨_,rfl,k H' (Same.refl _)⟩
    · intro i H' R hi hp s k;walk_at "w";exact k H' (Same.refl _)
    · intro H' s hl;refine q H' D s hD ?_;rw [hl];unfold MM.nOf;rw [Ac8,Ac8];congr 2;refine Af6 λ i _=> ?_;show V.int (1+(i:Int))=V.int ((i+1:Nat):Int);congr 1;omega
def DS:Sp:=λ vs H Q _=>∃ m n:Nat,vs=[.int m, .int n]/\n<=1000/\Q (.int (((2 ^ n - 1) ^^^ m:Nat):Int)) H
abbrev CH:Stmt:=top 11
theorem GW:FnScope ["mask","most"] ["mask","most"] (Ai CH):=⟨rfl,rfl,rfl,by decide +kernel,rfl,by decide +kernel,by decide +kernel⟩
theorem Hn {f:Addr} {fd:FuncData} (F:Fun K "other_mask" "other_mask" CH f fd) (T:Txt K mg c) (c_mask_to:CallF P w K mg base "mask_to" 1 ["most"] DZ):FnOk P w K mg base CX0 2 f fd ["mask","most"] DS:=by
  refine F.ok GW (λ vs H Q E h=> ?_) (λ cdv A outer s H vs Q E hr h=> ?_)
  · obtain ⟨m,n,rfl,_⟩:=h;rfl
  · obtain ⟨m,n,rfl,h1,q⟩:=h;refine ⟨_,(Ae (An (Al Q8 (Ah c_mask_to hr (Aa (pv 1) Ab)) (pv 0)))),?_⟩;walk_at "w";refine ⟨n,rfl,h1,?_⟩;walk_at "w";rw [bX];exact q
def Fm (K:PySem.W.Frag):Sp:=λ vs H Q _=>∃ x,vs=[x]/\Ty K H x/\Q (.bl (Nq x)) H
abbrev Eb:Stmt:=top 13
theorem Jw:FnScope ["thing"] ["thing"] (Ai Eb):=⟨rfl,rfl,rfl,by decide +kernel,rfl,by decide +kernel,by decide +kernel⟩
theorem Jt {f:Addr} {fd:FuncData} (F:Fun K "is_whole" "is_whole" Eb f fd) (T:Txt K mg c):FnOk P w K mg base CX0 1 f fd ["thing"] (Fm K):=by
  refine F.ok Jw (λ vs H Q E h=> ?_) (λ cdv A outer s H vs Q E hr h=> ?_)
  · obtain ⟨x,rfl,_⟩:=h;rfl
  · obtain ⟨x,rfl,⟨n,ty⟩,k⟩:=h;refine ⟨_,(Ae (An (Nl (Am (IL (K:=K)) rfl (T.own _ (by decide)) boot_isinstance (Aa (pv 0) (Aa (LP rfl (T.own _ (by decide)) boot_int) Ab))) (Km (Re (Am (IL (K:=K)) rfl (T.own _ (by decide)) boot_isinstance (Aa (pv 0) (Aa (LP rfl (T.own _ (by decide)) boot_bool) Ab)))))))),?_⟩;walk_at "w";refine FX ty (Qi ty) ?_;walk_at "w";refine Ko (λ hc=> ?_) (λ hc=> ?_)
    · walk_at "w";refine FX ty (NJ ty) ?_;walk_at "w";exact JK (by cases x <;> first | rfl | exact absurd hc Ab4) k
    · exact JK (by cases x <;> first | rfl | exact absurd hc.symm Ab4) k
def Ft (K:PySem.W.Frag):Sp:=λ vs H Q _=>∃ x a b,vs=[x, .int a, .int b]/\Ty K H x/\Q (.bl (Il x a b)) H
abbrev Ed:Stmt:=top 14
theorem IX:FnScope ["thing","least","most"] ["thing","least","most"] (Ai Ed):=⟨rfl,rfl,rfl,by decide +kernel,rfl,by decide +kernel,by decide +kernel⟩
theorem Jo {f:Addr} {fd:FuncData} (F:Fun K "is_among" "is_among" Ed f fd) (T:Txt K mg c) (c_is_whole:CallF P w K mg base "is_whole" 1 ["thing"] (Fm K)):FnOk P w K mg base CX0 2 f fd ["thing","least","most"] (Ft K):=by
  refine F.ok IX (λ vs H Q E h=> ?_) (λ cdv A outer s H vs Q E hr h=> ?_)
  · obtain ⟨x,a,b,rfl,_⟩:=h;rfl
  · obtain ⟨x,a,b,rfl,ty,k⟩:=h;refine ⟨_,(Ae (An (Nl (Ah c_is_whole hr (Aa (pv 0) Ab)) (Km (IT QB QB (pv 1) (pv 0) (pv 2)))))),?_⟩;walk_at "w";refine ⟨x,rfl,ty,?_⟩;walk_at "w";refine Ko (λ hc=> ?_) (λ hc=> ?_)
    · cases x with
      | int i=>
        walk_at "w";refine Ko (λ h1=> ?_) (λ h1=> ?_)
        · walk_at "w";exact JK (by show _=(decide (a<=i)&&decide (i<=b));rw [h1,Bool.true_and]) k
        · walk_at "w";exact JK (by show _=(decide (a<=i)&&decide (i<=b));rw [h1,Ai3]) k
      | _=>exact absurd hc Ab4
    · exact JK (by cases x <;> first | rfl | exact absurd hc.symm Ab4) k
def ClAt (C:Addr) (H:Hp) (x:Addr) (n:Nat) (rs:List Nat):Prop:=∃ dx t,H x=some (.ins C dx [("width",nV n),("rows", .ref t)])/\H t=some (.tup (rs.map nV))
theorem ClAt.same {C:Addr} {H H':Hp} {x:Addr} {n:Nat} {rs:List Nat} (h:ClAt C H x n rs) (s:Same H H'):ClAt C H' x n rs:=by
  obtain ⟨dx,t,h1,h2⟩:=h;exact ⟨dx,t,s _ _ h1,s _ _ h2⟩
structure ClOk (n:Nat) (rs:List Nat):Prop where
  n1:1<=n
  n2:n<=60
  p1:1<=rs.length
  p2:rs.length<=60
  lt:∀ r∈rs,r<2 ^ n
def DJ:Sp:=λ vs H Q _=>∃ (n:Nat) (a:Addr) (rs:List Nat),vs=[.int n, .ref a]/\H a=some (.lst (rs.map nV))/\ClOk n rs/\∀ H',Same H H'->Q .non H'
abbrev CY:Stmt:=top 16
theorem G3:FnScope ["ends","rows"] ["ends","rows"] (Ai CY):=⟨rfl,rfl,rfl,by decide +kernel,rfl,by decide +kernel,by decide +kernel⟩
theorem GV {f:Addr} {fd:FuncData} (F:Fun K "need_cloth" "need_cloth" CY f fd) (T:Txt K mg c) (c_is_among:CallF P w K mg base "is_among" 2 ["thing","least","most"] (Ft K)) (c_mask_to:CallF P w K mg base "mask_to" 1 ["most"] DZ):FnOk P w K mg base CX0 3 f fd ["ends","rows"] DJ:=by
  refine F.ok G3 (λ vs H Q E h=> ?_) (λ cdv A outer s H vs Q E hr h=> ?_)
  · obtain ⟨n,a,rs,rfl,_⟩:=h;rfl
  · obtain ⟨n,a,rs,rfl,ha,ok,k⟩:=h;refine ⟨_,(Ad (Bo (De (Bu (Ah c_is_among hr (Aa (pv 0) (Aa Ag (Aa (QI T.k_MOST_ENDS) Ab)))))) (Ae F5) AI)
      (Ad (Bo (PW.pt (EL (De (Bu (Am (IL (K:=K)) rfl (T.own _ (by decide)) boot_isinstance (Aa (pv 1) (Aa (LP rfl (T.own _ (by decide)) Bt) Ab))))) (Dg (De (Bu (Ah c_is_among hr (Aa (Am (Bf (K:=K)) rfl (T.own _ (by decide)) boot_len (Aa (pv 1) Ab)) (Aa Ag (Aa (QI T.k_MOST_PICKS) Ab))))))))) (Ae F5) AI)
      (Ae (Bo (De (Bu (Am (UH (K:=K)) rfl (T.own _ (by decide)) Mu (Aa (AK (AZ (K:=K) (pv 1)) (λ _ _ _ _=>AJ) (λ _ _ _ _=>(Ah c_is_among hr (Aa (pv 0) (Aa Ag (Aa (Ah c_mask_to (hr.mono (by decide)) (Aa (pv 1) Ab)) Ab)))))) Ab)))) (Ae F5) AI)))),?_⟩
    walk_at "w";refine ⟨_,_,_,rfl,⟨_, .int _⟩,?_⟩;walk_at "w";have e1:Il (.int n) 1 60=true:=by
      have:=ok.n1;have:=ok.n2;show (decide ((1:Int)<=n)&&decide ((n:Int)<=60))=true;simp;omega
    rw [e1];refine Gg ?_;walk_at "w";refine FX (.lst ha) (kb (b:=true) (by decide +kernel)) ?_;walk_at "w";refine AN (SqL.of ha) ?_;walk_at "w";refine ⟨_,_,_,rfl,⟨_, .int _⟩,?_⟩;walk_at "w";have e2:Il (.int ((rs.map nV).length:Nat)) 1 60=true:=by
      have:=ok.p1;have:=ok.p2;rw [Aa2];show (decide ((1:Int)<=(rs.length:Nat))&&decide (((rs.length:Nat):Int)<=60))=true;simp;omega
    rw [e2];refine Gg ?_;walk_at "w";refine ⟨a,rfl,⟨_,SqL.of ha⟩,λ D hD=> ?_⟩;refine Nz (G:=λ _=>true) (AM (SqL.of ha) rfl) hD (by have:=ok.p2;rw [Aa2];omega) ?_ ?_
    · intro i H' R hi s kk;have hi':i<rs.length:=by simpa using hi
      rw [AA hi];walk_at "w";refine ⟨n,rfl,by have:=ok.n2;omega,?_⟩;walk_at "w";refine ⟨_,_,_,rfl,⟨_, .int _⟩,?_⟩;have e3:Il (.int (rs.getD i 0:Nat)) 0 ((2 ^ n - 1:Nat):Int)=true:=by
        have hm:rs.getD i 0∈rs:=by rw [Aa0,Aa1 hi'];exact Ad9 hi'
        have:=ok.lt _ hm;have hp:0<2 ^ n:=Nat.two_pow_pos n;show (decide ((0:Int)<=(rs.getD i 0:Nat))&&decide (((rs.getD i 0:Nat):Int)<=((2 ^ n - 1:Nat):Int)))=true;simp only [Ag9,decide_eq_true_eq];omega
      rw [e3];exact kk H' (Same.refl _)
    · intro H' s hl;walk_at "w";refine Rw (SqL.of hl) ?_;walk_at "w";have e4:((Aa5 (rs.map nV).length).map λ _=>true).all id=true:=by simp
      rw [e4];refine Gg ?_;walk_at "w";exact k H' s
def AR (c:Cs):Sp:=λ vs H Q _=>∃ (x dx:Addr) (n:Nat) (a:Addr) (rs:List Nat),vs=[.ref x, .int n, .ref a]/\H x=some (.ins c.Cloth dx [])/\H a=some (.lst (rs.map nV))/\ClOk n rs/\
  ∀ H',(∀ b o,H b=some o->b≠x->H' b=some o)->ClAt c.Cloth H' x n rs->Q .non H'
abbrev Br:Stmt:=A2 (top 17) 0
theorem EM:FnScope ["self","ends","rows"] ["self","ends","rows"] (Ai Br):=⟨rfl,rfl,rfl,by decide +kernel,rfl,by decide +kernel,by decide +kernel⟩
theorem EF {f:Addr} {fd:FuncData} (F:Fun K "__init__" "Cloth.__init__" Br f fd) (T:Txt K mg c) (c_need_cloth:CallF P w K mg base "need_cloth" 3 ["ends","rows"] DJ):FnOk P w K mg base CX0 4 f fd ["self","ends","rows"] (AR c):=by
  refine F.ok EM (λ vs H Q E h=> ?_) (λ cdv A outer s H vs Q E hr h=> ?_)
  · obtain ⟨x,dx,n,a,rs,rfl,_⟩:=h;rfl
  · obtain ⟨x,dx,n,a,rs,rfl,hx,ha,ok,k⟩:=h;refine ⟨_,(Ad (A4 (Ah c_need_cloth hr (Aa (pv 1) (Aa (pv 2) Ab))))
      (Ad (OK (pv 0) (pv 1) rfl)
      (Ae (OK (pv 0) (Cy (LQ (K:=K)) rfl (T.own _ (by decide)) Fv (Aa (pv 2) Ab)) rfl)))),?_⟩
    walk_at "w";refine ⟨n,a,rs,rfl,ha,ok,λ H1 s1=> ?_⟩;walk_at "w";refine M9 (s1 _ _ hx) T.kd_Cloth.cl T.na_Cloth_width (by decide) ?_;walk_at "w";have nax:a≠x:=A3 ha hx (by intro z;cases z);refine JL (SqL.of (by rw [Ak nax];exact s1 _ _ ha)) λ t ht=> ?_;walk_at "w";have nxt:x≠t:=Ap Ac ht;refine M9 (by rw [Ak nxt];exact Ac) T.kd_Cloth.cl T.na_Cloth_rows (by show 1<1000;decide) ?_;walk_at "w";refine k _ (λ b o e hb=> ?_) ⟨dx,t,Ac,by rw [Ak (Ne.symm nxt),Ac]⟩;have hbt:b≠t:=λ z=>by
      subst z;rw [Ak hb,s1 _ _ e] at ht;cases ht
    rw [Ak hb,Ak hbt,Ak hb];exact s1 _ _ e
theorem N9 {c:Cs} {H:Hp} {R:Addr->Hp->Prop} {n:Nat} {a:Addr} {rs:List Nat} (ha:H a=some (.lst (rs.map nV))) (ok:ClOk n rs) (h:∀ H' x,Same H H'->H x=none->ClAt c.Cloth H' x n rs->R x H'):
    ∀ x dx,H x=none->H dx=none->dx≠x->AR c [.ref x, .int n, .ref a] (upd (upd H dx (.own x)) x (.ins c.Cloth dx [])) (λ v H2=>v= .non/\R x H2) E0:=by
  intro x dx hx hdx ne;have s0:=Oa (o:=HO.ins c.Cloth dx []) (u:= .own x) hx hdx;exact ⟨x,dx,n,a,rs,rfl,Ac,s0 _ _ ha,ok,λ H' kp at'=>⟨rfl,h H' x (λ b o e=>kp b o (s0 b o e) (Ap e hx)) hx at'⟩⟩
def DT (c:Cs):Sp:=λ vs H Q _=>∃ x n rs,vs=[.ref x]/\ClAt c.Cloth H x n rs/\∀ H' p l,Same H H'->H p=none->H l=none->H' p=some (.tup [nV n, .ref l])->H' l=some (.lst (rs.map nV))->Q (.ref p) H'
abbrev CP:Stmt:=A2 (top 17) 1
theorem G7:FnScope ["self"] ["self"] (Ai CP):=⟨rfl,rfl,rfl,by decide +kernel,rfl,by decide +kernel,by decide +kernel⟩
theorem GX {f:Addr} {fd:FuncData} (F:Fun K "told" "Cloth.told" CP f fd) (T:Txt K mg c):FnOk P w K mg base CX0 1 f fd ["self"] (DT c):=by
  refine F.ok G7 (λ vs H Q E h=> ?_) (λ cdv A outer s H vs Q E hr h=> ?_)
  · obtain ⟨x,n,rs,rfl,_⟩:=h;rfl
  · obtain ⟨x,n,rs,rfl,⟨dx,t,h1,h2⟩,k⟩:=h;refine ⟨_,(Ae (An (A8 (Aa (GA (K:=K) (pv 0) rfl) (Aa (Cy (Rj (K:=K)) rfl (T.own _ (by decide)) Bt (Aa (GA (K:=K) (pv 0) rfl) Ab)) Ab))))),?_⟩;walk_at "w";refine ⟨_,_,_,_,_,rfl,h1,T.kd_Cloth.cl,T.na_Cloth_width,rfl,?_⟩;walk_at "w";refine ⟨_,_,_,_,_,rfl,h1,T.kd_Cloth.cl,T.na_Cloth_rows,rfl,?_⟩;walk_at "w";refine Kw (SqT.of h2) λ l hl=> ?_;walk_at "w";intro p hp;refine k _ p l ((Af hl).trans (Af hp)) ((Af hl).free hp) hl Ac ?_;rw [Ak (Ap Ac hp),Ac]
def DL (c:Cs):Sp:=λ vs H Q _=>∃ x n rs,vs=[.ref x]/\ClAt c.Cloth H x n rs/\Q (nV n) H
abbrev CD:Stmt:=A2 (top 17) 2
theorem Hw:FnScope ["self"] ["self"] (Ai CD):=⟨rfl,rfl,rfl,by decide +kernel,rfl,by decide +kernel,by decide +kernel⟩
theorem Hq {f:Addr} {fd:FuncData} (F:Fun K "ends" "Cloth.ends" CD f fd) (T:Txt K mg c):FnOk P w K mg base CX0 1 f fd ["self"] (DL c):=by
  refine F.ok Hw (λ vs H Q E h=> ?_) (λ cdv A outer s H vs Q E hr h=> ?_)
  · obtain ⟨x,n,rs,rfl,_⟩:=h;rfl
  · obtain ⟨x,n,rs,rfl,⟨dx,t,h1,h2⟩,k⟩:=h;refine ⟨_,(Ae (An (GA (K:=K) (pv 0) rfl))),?_⟩;walk_at "w";exact ⟨_,_,_,_,_,rfl,h1,T.kd_Cloth.cl,T.na_Cloth_width,rfl,k⟩
def BH (c:Cs):Sp:=λ vs H Q _=>∃ x n rs,vs=[.ref x]/\ClAt c.Cloth H x n rs/\Q (nV rs.length) H
abbrev Ci:Stmt:=A2 (top 17) 3
theorem F1:FnScope ["self"] ["self"] (Ai Ci):=⟨rfl,rfl,rfl,by decide +kernel,rfl,by decide +kernel,by decide +kernel⟩
theorem GQ {f:Addr} {fd:FuncData} (F:Fun K "picks" "Cloth.picks" Ci f fd) (T:Txt K mg c):FnOk P w K mg base CX0 1 f fd ["self"] (BH c):=by
  refine F.ok F1 (λ vs H Q E h=> ?_) (λ cdv A outer s H vs Q E hr h=> ?_)
  · obtain ⟨x,n,rs,rfl,_⟩:=h;rfl
  · obtain ⟨x,n,rs,rfl,⟨dx,t,h1,h2⟩,k⟩:=h;refine ⟨_,(Ae (An (Am (Bf (K:=K)) rfl (T.own _ (by decide)) boot_len (Aa (GA (K:=K) (pv 0) rfl) Ab)))),?_⟩;walk_at "w";refine ⟨_,_,_,_,_,rfl,h1,T.kd_Cloth.cl,T.na_Cloth_rows,rfl,?_⟩;walk_at "w";refine Lo (SqT.of h2) ?_;rw [Aa2];exact k
theorem OU (f:Nat->Bool) (w:Nat):MM.mOf (((Aa5 w).filter f).map (· + 1))=MM.ofB f w:=by
  refine Aj4 λ i=> ?_;rw [MM.mOf_bit,MM.ofB_bit,Ae2,List.any_eq_true];constructor
  · rintro ⟨n,hn,e⟩;obtain ⟨k,hk,rfl⟩:=Ab2.mp hn;obtain ⟨h1,h2⟩:=Ac7.mp hk;have e:k+1 - 1=i:=of_decide_eq_true e;have e:k=i:=by omega
    subst e;simp [Ac0.mp h1,h2]
  · intro h;simp only [Ag9,decide_eq_true_eq] at h;exact ⟨i+1,Ab2.mpr ⟨i,Ac7.mpr ⟨Ac0.mpr h.1,h.2⟩,rfl⟩,by simp⟩
def Lh (rs:List Nat) (e:Nat):Nat:=MM.ofB (λ p=>(rs.getD p 0).testBit (e - 1)) rs.length
def BN (c:Cs):Sp:=λ vs H Q _=>∃ x n rs,∃ e:Nat,vs=[.ref x,nV e]/\ClAt c.Cloth H x n rs/\rs.length<=60/\1<=e/\e<=60/\∀ H',Same H H'->Q (nV (Lh rs e)) H'
abbrev Bi:Stmt:=A2 (top 17) 5
theorem Eo:FnScope ["self","end"] ["self","end"] (Ai Bi):=⟨rfl,rfl,rfl,by decide +kernel,rfl,by decide +kernel,by decide +kernel⟩
theorem Ec {f:Addr} {fd:FuncData} (F:Fun K "column_at" "Cloth.column_at" Bi f fd) (T:Txt K mg c) (c_mask_of:CallF P w K mg base "mask_of" 2 ["numbers"] (Eh K)) (c_has_number:CallF P w K mg base "has_number" 2 ["mask","number"] Bx):FnOk P w K mg base CX0 3 f fd ["self","end"] (BN c):=by
  refine F.ok Eo (λ vs H Q E h=> ?_) (λ cdv A outer s H vs Q E hr h=> ?_)
  · obtain ⟨x,n,rs,e,rfl,_⟩:=h;rfl
  · obtain ⟨x,n,rs,e,rfl,⟨dx,t,h1,h2⟩,hl,e1,e2,k⟩:=h;refine ⟨_,(Ae (An (Ah c_mask_of hr (Aa (EJ (K:=K) (Ji (K:=K) rfl (T.own _ (by decide)) (Aa (GA (K:=K) (pv 0) rfl) Ab)) (λ _ _ _ _=>(B8 (Bu (Ah c_has_number hr (Aa (pv 1) (Aa (pv 2) Ab)))))) (λ _ _ _ _=>(pv 0))) Ab)))),?_⟩;walk_at "w";refine ⟨_,_,_,_,_,rfl,h1,T.kd_Cloth.cl,T.na_Cloth_rows,rfl,?_⟩;walk_at "w";refine ⟨true,t,rfl,⟨_,SqT.of h2⟩,λ D hD=> ?_⟩;refine Be (p:=λ i=>(rs.getD i 0).testBit (e - 1)) (G:=λ i=>((i+1:Nat):Int)) (HI (tp:=true) (SqT.of h2) rfl rfl) hD (by rw [Aa2];omega) ?_ ?_ ?_
    · intro i H' R hi s kk;rw [AA hi];walk_at "w";refine ⟨rs.getD i 0,e,rfl,e1,by omega,?_⟩;exact ⟨_,rfl,kk H' (Same.refl _)⟩
    · intro i H' R hi hp s kk;walk_at "w";exact kk H' (Same.refl _)
    · intro H' s hl2;walk_at "w";have e:((((Aa5 (rs.map nV).length).filter λ i=>(rs.getD i 0).testBit (e - 1)).map λ i=>((i+1:Nat):Int)).map V.int)=(((Aa5 rs.length).filter λ i=>(rs.getD i 0).testBit (e - 1)).map (· + 1)).map nV:=by
        rw [Aa2,Ac8,Ac8];rfl
      rw [e] at hl2;refine ⟨false,D,_,rfl,SqL.of hl2,λ n hn=> ?_,λ H2 s2=> ?_⟩
      · obtain ⟨j,hj,rfl⟩:=Ab2.mp hn;have:=Ac0.mp (Ac7.mp hj).1;omega
      · rw [OU];exact k H2 (s.trans s2)
open MG
def nm (b:Bool):Str:=if b=true then Str.ofString "pick" else Str.ofString "end"
def thV (t:Th):List V:=[.str (nm t.1),nV t.2]
def thK (t:Th):List Key:=[.inr (nm t.1), .inl ((t.2:Nat):Int)]
theorem NR {a b:Bool} (h:nm a=nm b):a=b:=by
  cases a <;> cases b <;> first | rfl | (exact absurd h (by decide))
theorem Ew {t u:Th} (h:thK t=thK u):t=u:=by
  obtain ⟨a,k⟩:=t;obtain ⟨b,l⟩:=u;unfold thK at h;injection h with h1 h2;injection h2 with h3 _;injection h1 with h1;injection h3 with h3;have e1:a=b:=NR h1;have h3:((k:Nat):Int)=((l:Nat):Int):=h3;have e2:k=l:=by omega
  rw [e1,e2]
def dTh (t:Th):Dt:= .tup [.str (nm t.1),dN t.2]
def TR (H:Hp) (v:V) (t:Th):Prop:=∃ b,v= .ref b/\H b=some (.tup (thV t))
theorem TR.same {H H':Hp} {v:V} {t:Th} (h:TR H v t) (s:Same H H'):TR H' v t:=by
  obtain ⟨b,e,q⟩:=h;exact ⟨b,e,s _ _ q⟩
structure TL (H:Hp) (vs:List V) (ts:List Th):Prop where
  len:vs.length=ts.length
  at_:∀ i,i<ts.length->TR H (vs.getD i .non) (ts.getD i (false,0))
theorem TL.same {H H':Hp} {vs:List V} {ts:List Th} (h:TL H vs ts) (s:Same H H'):TL H' vs ts:=⟨h.len,λ i hi=>(h.at_ i hi).same s⟩
theorem TL.nil {H:Hp}:TL H [] []:=⟨rfl,λ i hi=>by cases hi⟩
theorem TL.app {H:Hp} {vs ws:List V} {ts us:List Th} (a:TL H vs ts) (b:TL H ws us):TL H (vs++ws) (ts++us):=by
  refine ⟨by rw [Ab0,Ab0,a.len,b.len],λ i hi=> ?_⟩;rcases Ad4 i ts.length with z | z
  · have:=a.at_ i z;rw [Aa0,Ab5 (by rw [a.len];exact z),Aa0,Ab5 z, <-Aa0, <-Aa0];exact this
  · have:=b.at_ (i - ts.length) (by rw [Ab0] at hi;omega);rw [Aa0,Ac6 (by rw [a.len];exact z),Aa0,Ac6 z,a.len, <-Aa0, <-Aa0];exact this
theorem TL.one {H:Hp} {v:V} {t:Th} (h:TR H v t):TL H [v] [t]:=⟨rfl,λ i hi=>by
  have:i=0:=by simpa using hi
  subst this;exact h⟩
theorem QN {H:Hp} {F:Addr->Prop} {n:Nat} {v:V} {t:Th} (h:TR H v t):Rp H F (n+1) v (dTh t):=by
  obtain ⟨b,rfl,q⟩:=h;exact B9 q (.str _) (.int _)
theorem Uv {H:Hp} {F:Addr->Prop} {n:Nat} {v:V} {t:Th} (r:Rp H F n v (dTh t)):TR H v t:=by
  obtain ⟨m,a,vs,rfl,rfl,h,l,b,e⟩:=Nb r
  match vs,l,h,e with
  | [x,y],_,h,e=>
    have e0:=e 0 (by show 0<2;decide);have e1:=e 1 (by show 1<2;decide);cases e0;cases e1;exact ⟨a,rfl,h⟩
theorem Ou {H:Hp} {F:Addr->Prop} {a:Addr} {vs:List V} {ts:List Th} (h:H a=some (.lst vs)) (f:F a) (b:ts.length<=100000) (l:TL H vs ts):Rp H F 2 (.ref a) (.lst (ts.map dTh)):=by
  refine .lst h f (by rw [l.len];exact b) (by rw [l.len,Aa2]) λ i v d hv hd=> ?_;have hi:i<ts.length:=by
    have:=(Ab1.mp hv).1;rw [l.len] at this;exact this
  have:=l.at_ i hi;rw [Aa0,hv] at this;rw [Aa8,Aa1 hi] at hd;have ed:d=dTh ts[i]:=(Ae7.inj hd).symm;rw [L2.getD_el hi] at this;rw [ed];exact QN this
theorem Fs {H:Hp} {F:Addr->Prop} {n:Nat} {v:V} {ts:List Th} (r:Rp H F n v (.lst (ts.map dTh))):∃ a vs,v= .ref a/\H a=some (.lst vs)/\F a/\TL H vs ts/\ts.length<=100000:=by
  obtain ⟨m,a,vs,rfl,rfl,h,f,l,b,e⟩:=Rv r;rw [Aa2] at l;refine ⟨a,vs,rfl,h,f,⟨l,λ i hi=> ?_⟩,by omega⟩;have:=e i (by simpa using hi);rw [Nk dTh ts i .non (false,0) hi] at this;exact Uv this
def EZ (K:PySem.W.Frag) (b:Bool):Sp:=λ vs H Q _=>∃ (a:Addr) (ns:List Nat),vs=[.ref a]/\SqL K H a (ns.map nV)/\ns.length<=1000/\∀ H' p,Same H H'->H p=none->Rp H' (FN H) 2 (.ref p) (.lst ((ns.map λ k=>((b,k):Th)).map dTh))->Q (.ref p) H'
abbrev Co:Stmt:=top 21
theorem GN:FnScope ["ends"] ["ends"] (Ai Co):=⟨rfl,rfl,rfl,by decide +kernel,rfl,by decide +kernel,by decide +kernel⟩
theorem Gx {f:Addr} {fd:FuncData} (F:Fun K "end_threads" "end_threads" Co f fd) (T:Txt K mg c):FnOk P w K mg base CX0 1 f fd ["ends"] (EZ K false):=by
  refine F.ok GN (λ vs H Q E h=> ?_) (λ cdv A outer s H vs Q E hr h=> ?_)
  · obtain ⟨a,ns,rfl,_⟩:=h;rfl
  · obtain ⟨a,ns,rfl,sa,hn,k⟩:=h;refine ⟨_,(Ae (An (AK (AZ (K:=K) (pv 0)) (λ _ _ _ _=>AJ) (λ _ _ _ _=>(A8 (Aa (JA T.k_END) (Aa (pv 0) Ab))))))),?_⟩;walk_at "w";refine ⟨a,rfl,⟨_,sa⟩,λ D hD=> ?_⟩;refine BZ (m:=1) (G:=λ i=>dTh (false,ns.getD i 0)) (AM sa rfl) hD (by rw [Aa2];omega) ?_ ?_
    · intro i H' R hi s kk;rw [AA hi];walk_at "w";intro p hp;exact kk _ _ (Af hp) (B9 Ac (.str _) (.int _))
    · intro H' ys s hl r;refine k H' D s hD ?_;rw [Aa2] at r;rw [Ac8];have e:(Aa5 ns.length).map (λ i=>dTh (false,ns.getD i 0))=ns.map (dTh∘λ k=>((false,k):Th)):=AL (λ k=>dTh (false,k)) ns 0;rw [e] at r;exact r
abbrev BM:Stmt:=top 22
theorem FH:FnScope ["picks"] ["picks"] (Ai BM):=⟨rfl,rfl,rfl,by decide +kernel,rfl,by decide +kernel,by decide +kernel⟩
theorem FI {f:Addr} {fd:FuncData} (F:Fun K "pick_threads" "pick_threads" BM f fd) (T:Txt K mg c):FnOk P w K mg base CX0 1 f fd ["picks"] (EZ K true):=by
  refine F.ok FH (λ vs H Q E h=> ?_) (λ cdv A outer s H vs Q E hr h=> ?_)
  · obtain ⟨a,ns,rfl,_⟩:=h;rfl
  · obtain ⟨a,ns,rfl,sa,hn,k⟩:=h;refine ⟨_,(Ae (An (AK (AZ (K:=K) (pv 0)) (λ _ _ _ _=>AJ) (λ _ _ _ _=>(A8 (Aa (JA T.k_PICK) (Aa (pv 0) Ab))))))),?_⟩;walk_at "w";refine ⟨a,rfl,⟨_,sa⟩,λ D hD=> ?_⟩;refine BZ (m:=1) (G:=λ i=>dTh (true,ns.getD i 0)) (AM sa rfl) hD (by rw [Aa2];omega) ?_ ?_
    · intro i H' R hi s kk;rw [AA hi];walk_at "w";intro p hp;exact kk _ _ (Af hp) (B9 Ac (.str _) (.int _))
    · intro H' ys s hl r;refine k H' D s hD ?_;rw [Aa2] at r;rw [Ac8];have e:(Aa5 ns.length).map (λ i=>dTh (true,ns.getD i 0))=ns.map (dTh∘λ k=>((true,k):Th)):=AL (λ k=>dTh (true,k)) ns 0;rw [e] at r;exact r
def Ao (n p:Nat):List Th:=(Aa5 n).map (λ k=>((false,k+1):Th))++(Aa5 p).map λ k=>((true,k+1):Th)
theorem J1 (n:Nat):((Aa5 ((n:Int)+1 - 1).toNat).map λ k:Nat=>(1:Int)+(k:Int)).map V.int=((Aa5 n).map (· + 1)).map nV:=by
  rw [show ((n:Int)+1 - 1).toNat=n by omega,Ac8,Ac8];refine Af6 λ k _=> ?_;show V.int (1+(k:Int))=V.int ((k+1:Nat):Int);congr 1;omega
def Cg (c:Cs):Sp:=λ vs H Q _=>∃ x n rs,vs=[.ref x]/\ClAt c.Cloth H x n rs/\ClOk n rs/\∀ H' p,Same H H'->H p=none->Rp H' (FN H) 2 (.ref p) (.lst ((Ao n rs.length).map dTh))->Q (.ref p) H'
abbrev CJ:Stmt:=top 23
theorem G8:FnScope ["cloth"] ["cloth"] (Ai CJ):=⟨rfl,rfl,rfl,by decide +kernel,rfl,by decide +kernel,by decide +kernel⟩
theorem GY {f:Addr} {fd:FuncData} (F:Fun K "threads_of" "threads_of" CJ f fd) (T:Txt K mg c) (c_end_threads:CallF P w K mg base "end_threads" 1 ["ends"] (EZ K false)) (c_pick_threads:CallF P w K mg base "pick_threads" 1 ["picks"] (EZ K true)) (d_Cloth_ends:BW P w K mg base c.Cloth "ends" 1 ["self"] (DL c)) (d_Cloth_picks:BW P w K mg base c.Cloth "picks" 1 ["self"] (BH c)):FnOk P w K mg base CX0 2 f fd ["cloth"] (Cg c):=by
  refine F.ok G8 (λ vs H Q E h=> ?_) (λ cdv A outer s H vs Q E hr h=> ?_)
  · obtain ⟨x,n,rs,rfl,_⟩:=h;rfl
  · obtain ⟨x,n,rs,rfl,C0,ok,k⟩:=h;have C1:=C0;obtain ⟨dx,t,h1,h2⟩:=C0;have n2:=ok.n2;have p2:=ok.p2;refine ⟨_,(Ae (An (Al (Lk (K:=K)) (Ah c_end_threads hr (Aa (Ee rfl (T.own _ (by decide)) rfl (T.own _ (by decide)) (Aa Ag (Aa (Al AC (DC (pv 0) d_Cloth_ends hr) Ag) Ab))) Ab)) (Ah c_pick_threads hr (Aa (Ee rfl (T.own _ (by decide)) rfl (T.own _ (by decide)) (Aa Ag (Aa (Al AC (DC (pv 0) d_Cloth_picks hr) Ag) Ab))) Ab))))),?_⟩;walk_at "w";refine ⟨_,_,_,rfl,h1,rfl,?_⟩;walk_at "w";refine ⟨x,n,rs,rfl,C1,?_⟩;walk_at "w";refine ⟨_,_,rfl,⟨by decide,by decide,by omega,by omega⟩,by omega,λ l hl=> ?_⟩;rw [J1];have s1:=Af (o:=HO.lst (((Aa5 n).map (· + 1)).map nV)) hl;have e1:upd H l (HO.lst (((Aa5 n).map (· + 1)).map nV)) l=_:=Ac;generalize upd H l (HO.lst (((Aa5 n).map (· + 1)).map nV))=H1 at s1 e1 ⊢;walk_at "w";refine ⟨l,_,rfl,SqL.of e1,by simp;omega,λ H2 p s2 hp r2=> ?_⟩;have s12:=s1.trans s2;walk_at "w";refine ⟨_,_,_,rfl,s12 _ _ h1,rfl,?_⟩;walk_at "w";refine ⟨x,n,rs,rfl,C1.same s12,?_⟩;walk_at "w";refine ⟨_,_,rfl,⟨by decide,by decide,by omega,by omega⟩,by omega,λ l3 hl3=> ?_⟩;rw [J1];have s3:=Af (o:=HO.lst (((Aa5 rs.length).map (· + 1)).map nV)) hl3;have e3:upd H2 l3 (HO.lst (((Aa5 rs.length).map (· + 1)).map nV)) l3=_:=Ac;generalize upd H2 l3 (HO.lst (((Aa5 rs.length).map (· + 1)).map nV))=H3 at s3 e3 ⊢;walk_at "w";refine ⟨l3,_,rfl,SqL.of e3,by simp;omega,λ H4 q s4 hq r4=> ?_⟩;walk_at "w";have s34:=s3.trans s4;obtain ⟨a1,v1,ea1,g1,_,t1,_⟩:=Fs r2;cases ea1;obtain ⟨a2,v2,ea2,g2,_,t2,_⟩:=Fs r4;cases ea2;have l1:=t1.len;have l2:=t2.len;simp at l1 l2;refine Iq (SqL.of (s34 _ _ g1)) (SqL.of g2) (by omega) λ z hz=> ?_;have s5:=Af (o:=HO.lst (v1++v2)) hz;have s14:=s12.trans s34;refine k _ z (s14.trans s5) (s14.free hz) ?_;have tt:=((t1.same s34).app t2).same s5;have e:Ao n rs.length=(((Aa5 n).map (· + 1)).map λ k=>((false,k):Th))++(((Aa5 rs.length).map (· + 1)).map λ k=>((true,k):Th)):=by
      unfold Ao;rw [Ac8,Ac8];rfl
    rw [e];exact Ou Ac (s14.free hz) (by simp;omega) tt
open MG
def C6 (c:Cs):Sp:=λ vs H Q _=>∃ x n rs,∃ k:Nat,vs=[.ref x,nV k]/\ClAt c.Cloth H x n rs/\1<=k/\k<=rs.length/\Q (nV (rs.getD (k - 1) 0)) H
abbrev BY:Stmt:=A2 (top 17) 4
theorem FL:FnScope ["self","pick"] ["self","pick"] (Ai BY):=⟨rfl,rfl,rfl,by decide +kernel,rfl,by decide +kernel,by decide +kernel⟩
theorem FF {f:Addr} {fd:FuncData} (F:Fun K "row_at" "Cloth.row_at" BY f fd) (T:Txt K mg c):FnOk P w K mg base CX0 1 f fd ["self","pick"] (C6 c):=by
  refine F.ok FL (λ vs H Q E h=> ?_) (λ cdv A outer s H vs Q E hr h=> ?_)
  · obtain ⟨x,n,rs,k,rfl,_⟩:=h;rfl
  · obtain ⟨x,n,rs,k,rfl,⟨dx,t,h1,h2⟩,k1,k2,q⟩:=h;refine ⟨_,(Ae (An (AX (BQ (K:=K)) (GA (K:=K) (pv 0) rfl) (Al CT (pv 1) Ag) (λ _ _=>rfl)))),?_⟩;walk_at "w";refine ⟨_,_,_,_,_,rfl,h1,T.kd_Cloth.cl,T.na_Cloth_rows,rfl,?_⟩;walk_at "w";rw [show ((k:Nat):Int) - 1=((k - 1:Nat):Int) by omega];refine Bd (SqT.of h2) (BL (by omega) (by omega)) ?_;rw [Ab6];exact q
def okT (n p:Nat) (t:Th):Prop:=1<=t.2/\t.2<=(if t.1=true then p else n)
theorem mem_allT {n p:Nat} {t:Th}:t∈Ao n p↔okT n p t:=by
  obtain ⟨b,k⟩:=t;unfold Ao okT;rw [Ac4,Ab2,Ab2];constructor
  · rintro (⟨j,hj,e⟩ | ⟨j,hj,e⟩)
    · cases e;have:=Ac0.mp hj;exact ⟨by omega,by simp;omega⟩
    · cases e;have:=Ac0.mp hj;exact ⟨by omega,by simp;omega⟩
  · rintro ⟨h1,h2⟩;cases b with
    | false=>exact .inl ⟨k - 1,Ac0.mpr (by simp at h2 h1;omega),by simp at h1;simp;omega⟩
    | true=>exact .inr ⟨k - 1,Ac0.mpr (by simp at h2 h1;omega),by simp at h1;simp;omega⟩
theorem FZ (n p:Nat):(Ao n p).Nodup:=by
  unfold Ao;rw [Ah0];refine ⟨List.Pairwise.map _ (λ a b h z=>h (by injection z with _ z2;omega)) List.nodup_range,List.Pairwise.map _ (λ a b h z=>h (by injection z with _ z2;omega)) List.nodup_range,λ a ha b hb=> ?_⟩;obtain ⟨i,_,rfl⟩:=Ab2.mp ha;obtain ⟨j,_,rfl⟩:=Ab2.mp hb;intro z;injection z with z1 _;cases z1
theorem Ba (n p:Nat):(Ao n p).length=n+p:=by unfold Ao;simp
def ovL (n:Nat) (rs:List Nat) (t:Th):List Th:=
  if t.1=true then (((Aa5 n).filter λ e=>(rs.getD (t.2 - 1) 0).testBit e).map (· + 1)).map λ k=>(false,k)
  else (((Aa5 rs.length).filter λ p=> !(rs.getD p 0).testBit (t.2 - 1)).map (· + 1)).map λ k=>(true,k)
theorem RS {n:Nat} {rs:List Nat} {t x:Th} (h:x∈ovL n rs t):x∈Ao n rs.length:=by
  rw [mem_allT];unfold ovL at h;split at h
  · obtain ⟨k,hk,rfl⟩:=Ab2.mp h;obtain ⟨j,hj,rfl⟩:=Ab2.mp hk;have:=Ac0.mp (Ac7.mp hj).1;exact ⟨by simp,by simp;omega⟩
  · obtain ⟨k,hk,rfl⟩:=Ab2.mp h;obtain ⟨j,hj,rfl⟩:=Ab2.mp hk;have:=Ac0.mp (Ac7.mp hj).1;exact ⟨by simp,by simp;omega⟩
def GJ (c:Cs):Sp:=λ vs H Q _=>∃ x n rs b,∃ t:Th,vs=[.ref x, .ref b]/\ClAt c.Cloth H x n rs/\ClOk n rs/\H b=some (.tup (thV t))/\okT n rs.length t/\∀ H' p,Same H H'->H p=none->Rp H' (FN H) 2 (.ref p) (.lst ((ovL n rs t).map dTh))->Q (.ref p) H'
theorem La {H H1:Hp} (s:Same H H1) {a:Addr} (h:FN H1 a):FN H a:=s.free h
abbrev E1:Stmt:=top 24
theorem KB:FnScope ["cloth","thread"] ["cloth","thread"] (Ai E1):=⟨rfl,rfl,rfl,by decide +kernel,rfl,by decide +kernel,by decide +kernel⟩
theorem Kj {f:Addr} {fd:FuncData} (F:Fun K "over_of" "over_of" E1 f fd) (T:Txt K mg c) (c_end_threads:CallF P w K mg base "end_threads" 1 ["ends"] (EZ K false)) (c_pick_threads:CallF P w K mg base "pick_threads" 1 ["picks"] (EZ K true)) (c_numbers_of:CallF P w K mg base "numbers_of" 3 ["mask"] DO) (c_other_mask:CallF P w K mg base "other_mask" 2 ["mask","most"] DS) (d_Cloth_row_at:BW P w K mg base c.Cloth "row_at" 1 ["self","pick"] (C6 c)) (d_Cloth_column_at:BW P w K mg base c.Cloth "column_at" 3 ["self","end"] (BN c)) (d_Cloth_picks:BW P w K mg base c.Cloth "picks" 1 ["self"] (BH c)):FnOk P w K mg base CX0 4 f fd ["cloth","thread"] (GJ c):=by
  refine F.ok KB (λ vs H Q E h=> ?_) (λ cdv A outer s H vs Q E hr h=> ?_)
  · obtain ⟨x,n,rs,b,t,rfl,_⟩:=h;rfl
  · obtain ⟨x,n,rs,b,t,rfl,C0,ok,hb,ht,k⟩:=h;have C1:=C0;obtain ⟨dx,tt,h1,h2⟩:=C0;have n2:=ok.n2;have p2:=ok.p2;obtain ⟨bb,kk⟩:=t;refine ⟨_,(Ad (Bo (As Cz (AX (BQ (K:=K)) (pv 1) Ag (λ _ _=>rfl)) (JA T.k_PICK) (Aw _)) (Ae (An (Ah c_end_threads (hr.mono (by decide)) (Aa (Ah c_numbers_of hr (Aa (Gj (pv 0) d_Cloth_row_at (hr.mono (by decide)) (Aa (AX (BQ (K:=K)) (pv 1) Ag (λ _ _=>rfl)) Ab)) Ab)) Ab)))) AI)
      (Ae (An (Ah c_pick_threads (hr.mono (by decide)) (Aa (Ah c_numbers_of hr (Aa (Ah c_other_mask (hr.mono (by decide)) (Aa (Gj (pv 0) d_Cloth_column_at hr (Aa (AX (BQ (K:=K)) (pv 1) Ag (λ _ _=>rfl)) Ab)) (Aa (DC (pv 0) d_Cloth_picks (hr.mono (by decide))) Ab))) Ab)) Ab))))),?_⟩
    walk_at "w";refine Bd (v:= .str (nm bb)) (SqT.of hb) (AT (j:=0) rfl) ?_;walk_at "w";cases bb with
    | true=>
      refine IA (λ _=> ?_) (λ z=>absurd rfl z);walk_at "w";have hk2:kk<=rs.length:=by have:=ht.2;simpa using this
      have hk1:1<=kk:=ht.1;refine ⟨_,_,_,rfl,h1,rfl,?_⟩;walk_at "w";refine Bd (v:=nV kk) (SqT.of hb) (AT (j:=1) rfl) ?_;walk_at "w";refine ⟨x,n,rs,kk,rfl,C1,hk1,hk2,?_⟩;walk_at "w";have hlt:=ok.lt _ (L2.getD_mem (y:=0) (show kk - 1<rs.length by omega));refine ⟨_,rfl,Ac3 hlt (Nat.pow_le_pow_right (by decide) (by omega)),λ H1 p s1 hp e1=> ?_⟩;walk_at "w";have hnl:=MM.nOf_len hlt;refine ⟨p,_,rfl,SqL.of e1,by omega,λ H2 q s2 hq r2=> ?_⟩;refine k H2 q (s1.trans s2) (s1.free hq) ?_;have e:ovL n rs (true,kk)=(MM.nOf (rs.getD (kk - 1) 0)).map λ k=>((false,k):Th):=by
        unfold ovL;rw [if_pos rfl,MM.nOf_wide hlt]
      rw [e];exact r2.mono (λ _ _ q _=>q) λ _ h=>La s1 h
    | false=>
      refine IA (λ z=>absurd z (by decide)) (λ _=> ?_);walk_at "w";have hk2:kk<=n:=by have:=ht.2;simpa using this
      have hk1:1<=kk:=ht.1;refine ⟨_,_,_,rfl,h1,rfl,?_⟩;walk_at "w";refine Bd (v:=nV kk) (SqT.of hb) (AT (j:=1) rfl) ?_;walk_at "w";refine ⟨x,n,rs,kk,rfl,C1,p2,hk1,by omega,λ H0 s0=> ?_⟩;walk_at "w";refine ⟨_,_,_,rfl,s0 _ _ h1,rfl,?_⟩;walk_at "w";refine ⟨x,n,rs,rfl,C1.same s0,?_⟩;walk_at "w";refine ⟨_,rs.length,rfl,by omega,?_⟩;walk_at "w";have hlt:((2 ^ rs.length - 1) ^^^ Lh rs kk)<2 ^ rs.length:=MM.other_lt (MM.ofB_lt _ _);refine ⟨_,rfl,Ac3 hlt (Nat.pow_le_pow_right (by decide) (by omega)),λ H1 p s1 hp e1=> ?_⟩;walk_at "w";have hnl:=MM.nOf_len hlt;refine ⟨p,_,rfl,SqL.of e1,by omega,λ H2 q s2 hq r2=> ?_⟩;have s01:=s0.trans s1;refine k H2 q (s01.trans s2) (s01.free hq) ?_;have e:ovL n rs (false,kk)=(MM.nOf ((2 ^ rs.length - 1) ^^^ Lh rs kk)).map λ k=>((true,k):Th):=by
        unfold ovL;rw [if_neg (by simp),MM.nOf_wide hlt];congr 2;refine Ai2 λ i hi=> ?_;rw [MM.other_bit (Ac0.mp hi)];unfold Lh;rw [MM.ofB_bit];simp [Ac0.mp hi]
      rw [e];exact r2.mono (λ _ _ q _=>q) λ _ h=>La s01 h
open MG
def ers (H:Hp) (d:Addr):Hp:=λ b=>if b=d then none else H b
theorem CM {H:Hp} {d b:Addr} {o:HO} (h:H b=some o) (n:b≠d):ers H d b=some o:=by unfold ers;rw [if_neg n];exact h
theorem Fe {H H0:Hp} {d:Addr} (s:Same H0 H) (h:H0 d=none):Same H0 (ers H d):=λ b o e=>CM (s b o e) (λ z=>by rw [z,h] at e;cases e)
theorem ers_is {H:Hp} {d:Addr}:Same (ers H d) H:=λ b o e=>by
  unfold ers at e;split at e
  · cases e
  · exact e
theorem Ig {H G:Hp} {d:Addr} {o:HO} (s:Same (ers H d) G):Same (ers H d) (upd G d o):=λ b u e=>by
  have n:b≠d:=λ z=>by rw [z] at e;unfold ers at e;rw [if_pos rfl] at e;cases e
  rw [Ak n];exact s b u e
theorem OI {H:Hp} {F:Addr->Prop} {n:Nat} {v:V} {d:Dt} {x:Addr} {kvs:List (List Key × V)} {o:HO} (r:Rp H F n v d) (h:H x=some (.dT kvs)):Rp (L2.upd H x o) F n v d:=by
  induction r with
  | non=>exact .non
  | bl b=>exact .bl b
  | int i=>exact .int i
  | str z=>exact .str z
  | @lst n a vs ds q f b l e ih=>
    refine .lst ?_ f b l ih;rw [Ak (A3 q h (by intro z;cases z))];exact q
  | @tup n a vs ds q b l e ih=>
    refine .tup ?_ b l ih;rw [Ak (A3 q h (by intro z;cases z))];exact q
structure OV (H:Hp) (kvs:List (List Key × V)) (U:List Th) (ad:Th->List Th):Prop where
  at_:∀ t∈U,∃ l,A6 kvs (thK t)=some (.ref l)/\Rp H FT 2 (.ref l) (.lst ((ad t).map dTh))
theorem OV.same {H H':Hp} {kvs:List (List Key × V)} {U:List Th} {ad:Th->List Th} (o:OV H kvs U ad) (s:Same H H'):OV H' kvs U ad:=⟨λ t ht=>by
  obtain ⟨l,e,r⟩:=o.at_ t ht;exact ⟨l,e,r.same s⟩⟩
theorem OV.put {H:Hp} {kvs kv0:List (List Key × V)} {U:List Th} {ad:Th->List Th} {d:Addr} {t:Th} {p:Addr} {o:HO} (ov:OV H kvs U ad) (hd:H d=some (.dT kv0)) (r:Rp H FT 2 (.ref p) (.lst ((ad t).map dTh))):OV (upd H d o) (C9 kvs (thK t) (.ref p)) (U++[t]) ad:=⟨λ u hu=>by
  by_cases e:u=t
  · subst e;exact ⟨p,by rw [GE,if_pos rfl],OI r hd⟩
  · rcases Ac4.mp hu with z | z
    · obtain ⟨l,e1,r1⟩:=ov.at_ u z;exact ⟨l,by rw [GE,if_neg (λ q=>e (Ew q))];exact e1,OI r1 hd⟩
    · exact absurd (Ab7.mp z) e⟩
theorem DB {ts:List Th} {i:Nat} (h:i<ts.length):ts.take (i+1)=ts.take i++[ts.getD i (false,0)]:=by
  rw [List.take_add_one,Aa1 h,L2.getD_el h];rfl
def Fw (c:Cs):Sp:=λ vs H Q _=>∃ x n rs,vs=[.ref x]/\ClAt c.Cloth H x n rs/\ClOk n rs/\∀ H' d kvs,Same H H'->H d=none->H' d=some (.dT kvs)->OV H' kvs (Ao n rs.length) (ovL n rs)->Q (.ref d) H'
abbrev Ei:Stmt:=top 25
theorem sc_overs_of:FnScope ["cloth","overs","thread"] ["cloth"] (Ai Ei):=⟨rfl,rfl,rfl,by decide +kernel,rfl,by decide +kernel,by decide +kernel⟩
theorem IZ {f:Addr} {fd:FuncData} (F:Fun K "overs_of" "overs_of" Ei f fd) (T:Txt K mg c) (c_threads_of:CallF P w K mg base "threads_of" 2 ["cloth"] (Cg c)) (c_over_of:CallF P w K mg base "over_of" 4 ["cloth","thread"] (GJ c)):FnOk P w K mg base CX0 5 f fd ["cloth"] (Fw c):=by
  refine F.ok sc_overs_of (λ vs H Q E h=> ?_) (λ cdv A outer s H vs Q E hr h=> ?_)
  · obtain ⟨x,n,rs,rfl,_⟩:=h;rfl
  · obtain ⟨x,n,rs,rfl,C0,ok,k⟩:=h;have hu1:=hr.units1;have n2:=ok.n2;have p2:=ok.p2;refine ⟨_,(Ad (Aq (i:=1) sc_overs_of.nd rfl (Or.inl rfl) GL)
      (Ad (AQ PassesOwn.never rfl (AZ (K:=K) (Ah c_threads_of (hr.mono (by decide)) (Aa (pv 0) Ab))) (Ar (i:=2) sc_overs_of.nd rfl (Or.inl rfl)) (Ae (EK hu1 (pv 1) (pv 2) (Ah c_over_of hr (Aa (pv 0) (Aa (pv 2) Ab))) rfl)))
      (Ae (An (pv 1))))),?_⟩
    walk_at "w";intro d hd;walk_at "w";have s1:=Af (o:=HO.dT []) hd;refine ⟨x,n,rs,rfl,C0.same s1,ok,λ H2 m s2 hm r2=> ?_⟩;have hd2:=s2 _ _ (show upd H d (HO.dT []) d=_ from Ac);have s12:=s1.trans s2;have sE:=Fe s12 hd;walk_at "w";obtain ⟨m',refs,em,g2,_,t2,_⟩:=Fs r2;cases em;have hmd:m≠d:=A3 g2 hd2 (by intro z;cases z);refine ⟨m,rfl,⟨_,SqL.of g2⟩,AH (H0:=ers H2 d) (B6 (SqL.of (CM g2 hmd))) (λ i σ H3=>∃ y kvs,σ=[some (.ref x),some (.ref d),y]/\Same (ers H2 d) H3/\H3 d=some (.dT kvs)/\kvs.length<=i/\OV H3 kvs ((Ao n rs.length).take i) (ovL n rs)) ⟨_,[],rfl,ers_is,hd2,Aa6 _,⟨λ t ht=>by cases ht⟩⟩ (λ i σ H3 ⟨_,_,_,s,_⟩=>s) ?_ ?_⟩
    · rintro i σ H' H3 hi ⟨y,kvs,rfl,s',hd',hl,ov⟩ s3;have hi':i<(Ao n rs.length).length:=by rw [<-t2.len];exact hi
      have sH:=s'.trans s3;have hd3:=s3 _ _ hd';obtain ⟨b,eb,hb⟩:=t2.at_ i hi';have hbd:b≠d:=A3 hb hd2 (by intro z;cases z);have hb3:=sH _ _ (CM hb hbd);rw [eb];walk_at "w";have hok:okT n rs.length ((Ao n rs.length).getD i (false,0)):=mem_allT.mp (L2.getD_mem hi');refine ⟨x,n,rs,b,_,rfl,C0.same (sE.trans sH),ok,hb3,hok,λ H4 p s4 hp r4=> ?_⟩;have hd4:=s4 _ _ hd3;have hb4:=s4 _ _ hb3;walk_at "w";have hlen:(Ao n rs.length).length<=120:=by rw [Ba];omega
      refine ⟨d,_,rfl,DPut.t (k:=thK ((Ao n rs.length).getD i (false,0))) hd4 hb4 (Ae8 (show kvs.length<=1000 by omega) (by decide)),?_⟩;walk_at "w";refine ⟨_,_,rfl,Ig (sH.trans s4),Ac,?_,?_⟩
      · have:=Ca kvs (thK ((Ao n rs.length).getD i (false,0))) (.ref p);omega
      · rw [DB hi'];exact ((ov.same s3).same s4).put hd4 (r4.mono (λ _ _ q _=>q) λ _ _=>trivial)
    · rintro σ H3 ⟨y,kvs,rfl,s3,hd3,hl,ov⟩;have e:(Ao n rs.length).take refs.length=Ao n rs.length:=by rw [t2.len,Af2]
      rw [e] at ov;walk_at "w";exact k H3 d kvs (sE.trans s3) hd hd3 ov
inductive VR (R:Th->Option Th->V->Prop):Vis->List (List Key × V)->Prop where
  | nil:VR R [] []
  | cons {x:Th} {po:Option Th} {v:V} {vis:Vis} {kvs:List (List Key × V)} (h:R x po v) (t:VR R vis kvs):VR R ((x,po)::vis) ((thK x,v)::kvs)
theorem VR.snoc {R:Th->Option Th->V->Prop} {vis:Vis} {kvs:List (List Key × V)} {x:Th} {po:Option Th} {v:V} (h:VR R vis kvs) (r:R x po v):VR R (vis++[(x,po)]) (kvs++[(thK x,v)]):=by
  induction h with
  | nil=>exact .cons r .nil
  | cons h t ih=>exact .cons h ih
theorem VR.len {R:Th->Option Th->V->Prop} {vis:Vis} {kvs:List (List Key × V)} (h:VR R vis kvs):kvs.length=vis.length:=by
  induction h with
  | nil=>rfl
  | cons h t ih=>rw [Ad8,Ad8,ih]
theorem VR.val {R:Th->Option Th->V->Prop} {vis:Vis} {kvs:List (List Key × V)} (h:VR R vis kvs) (x:Th):(A6 kvs (thK x)=none/\has vis x=false)\/∃ p q po v,vis=p++(x,po)::q/\A6 kvs (thK x)=some v/\R x po v/\has vis x=true:=by
  induction h with
  | nil=>exact .inl ⟨rfl,rfl⟩
  | @cons y po v vis kvs h t ih=>
    by_cases e:y=x
    · subst e;exact .inr ⟨[],vis,po,v,rfl,AW rfl,h,by simp [has]⟩
    · have e2:A6 ((thK y,v)::kvs) (thK x)=A6 kvs (thK x):=AU (p:=(thK y,v)) (λ z=>e (Ew z));have e3:has ((y,po)::vis) x=has vis x:=by simp [has,e]
      rw [e2,e3];rcases ih with z | ⟨p,q,po',v',a,b,c,d⟩
      · exact .inl z
      · exact .inr ⟨(y,po)::p,q,po',v',by rw [a];rfl,b,c,d⟩
def NW (H:Hp) (_:Th) (po:Option Th) (v:V):Prop:=match po with | none=>v= .non | some p=>TR H v p
open MG
theorem LO {β:Type} (g:β->Th->β) (l:List Th) (acc:β) {j:Nat} (h:j<l.length):(l.take (j+1)).foldl g acc=g ((l.take j).foldl g acc) (l.getD j (false,0)):=by
  rw [DB h,List.foldl_append];rfl
def Ct:Sp:=λ vs H Q _=>∃ (o b:Addr) (kvo:List (List Key × V)) (U:List Th) (ad:Th->List Th) (one:Th),vs=[.ref o, .ref b]/\H o=some (.dT kvo)/\H b=some (.tup (thV one))/\OV H kvo U ad/\one∈U/\(∀ t∈U,∀ x∈ad t,x∈U)/\U.length<=1000/\
  ∀ H' d kvs vis,Same H H'->H d=none->H' d=some (.dT kvs)->VR (NW H) vis kvs->End ad one vis->Lv U (vis,[])->Q (.ref d) H'
abbrev BB:Stmt:=top 26
theorem sc_threads_ahead:FnScope ["overs","one","ahead","met","later","thread","upper"] ["overs","one"] (Ai BB):=⟨rfl,rfl,rfl,by decide +kernel,rfl,by decide +kernel,by decide +kernel⟩
theorem ER {f:Addr} {fd:FuncData} (F:Fun K "threads_ahead" "threads_ahead" BB f fd) (T:Txt K mg c):FnOk P w K mg base CX0 1 f fd ["overs","one"] Ct:=by
  refine F.ok sc_threads_ahead (λ vs H Q E h=> ?_) (λ cdv A outer s H vs Q E hr h=> ?_)
  · obtain ⟨o,b,kvo,U,ad,one,rfl,_⟩:=h;rfl
  · obtain ⟨o,b,kvo,U,ad,one,rfl,ho,hb,ov,h1,cl,hU,k⟩:=h;have hu1:=hr.units1;refine ⟨_,(Ad (Aq (i:=2) sc_threads_ahead.nd rfl (Or.inl rfl) (MW hu1 (pv 1) EX))
      (Ad (Aq (i:=3) sc_threads_ahead.nd rfl (Or.inl rfl) (AY (Aa (pv 1) Ab)))
      (Ad (Gh PassesOwn.never (As QF (Am (Bf (K:=K)) rfl (T.own _ (by decide)) boot_len (Aa (pv 3) Ab)) Ag (Aw _)) (Ad (Aq (i:=4) sc_threads_ahead.nd rfl (Or.inl rfl) (AY Ab))
      (Ad (AQ PassesOwn.never rfl (AZ (K:=K) (pv 3)) (Ar (i:=5) sc_threads_ahead.nd rfl (Or.inl rfl)) (Ae (AQ PassesOwn.never rfl (AZ (K:=K) (IN hu1 (pv 0) (pv 5) (λ _ _=>rfl))) (Ar (i:=6) sc_threads_ahead.nd rfl (Or.inl rfl)) (Ae (Bo (N0 (MP hu1 (pv 6) (pv 2))) (Ad (EK hu1 (pv 2) (pv 6) (pv 5) rfl)
      (Ae (A4 (Cr (K:=K) PySem.F.plainAttrs_list PySem.F.slot_list_append PySem.F.type_list_append AG (pv 4) (Aa (pv 6) Ab))))) AI)))))
      (Ae (Aq (i:=3) sc_threads_ahead.nd rfl (Or.inl rfl) (pv 4))))))
      (Ae (An (pv 2)))))),?_⟩
    walk_at "w";intro d hd;walk_at "w";have hbd:b≠d:=Ap hb hd;refine ⟨_,_,rfl,b,thK one,rfl,(Ak hbd).trans hb,Ac,?_⟩;rw [PZ];have s1:=Af (o:=HO.dT [(thK one,V.non)]) hd;have e1:upd H d (HO.dT [(thK one,V.non)]) d=_:=Ac;generalize upd H d (HO.dT [(thK one,V.non)])=H1 at s1 e1 ⊢;walk_at "w";intro m hm;walk_at "w";have s2:=Af (o:=HO.lst [V.ref b]) hm;have e2:upd H1 m (HO.lst [V.ref b]) m=_:=Ac;replace e1:=s2 _ _ e1;generalize upd H1 m (HO.lst [V.ref b])=H2 at s2 e1 e2 ⊢;have LA:=Lv.all cl h1;refine ⟨λ w σ H'=>∃ (kk:Nat) (kvs:List (List Key × V)) (mt:Addr) (refs:List V) (x y z:Option V),σ=[some (.ref o),some (.ref b),some (.ref d),some (.ref mt),x,y,z]/\Same H H'/\H' d=some (.dT kvs)/\VR (NW H) (lv ad one kk).1 kvs/\H' mt=some (.lst refs)/\TL H refs (lv ad one kk).2/\w=(U.length - (lv ad one kk).1.length)+(if (lv ad one kk).2=[] then 0 else 1),⟨_,0,_,m,_,_,_,_,rfl,s1.trans s2,e1, .cons rfl .nil,e2,TL.one ⟨b,rfl,hb⟩,rfl⟩,?_⟩;rintro w0 σ H' ⟨kk,kvs,mt,refs,x,y,z,rfl,sH,hd',vr,hmt,tl,rfl⟩;have sE:=Fe sH hd;have hmtd:mt≠d:=A3 hmt hd' (by intro z;cases z);walk_at "w";refine AN (SqL.of hmt) ?_;walk_at "w";refine IA (λ hne=> ?_) (λ hne=> ?_)
    · have hne2:(lv ad one kk).2≠[]:=λ z=>by
        have:=tl.len;rw [z] at this;simp at this;rw [this] at hne;simp at hne
      refine ⟨λ σ' H''=>∃ (kvs2:List (List Key × V)) (q:Addr) (refs2:List V) (x y:Option V),σ'=[some (.ref o),some (.ref b),some (.ref d),some (.ref q),some (.ref q),x,y]/\Same H H''/\H'' d=some (.dT kvs2)/\VR (NW H) (lv ad one (kk+1)).1 kvs2/\H'' q=some (.lst refs2)/\TL H refs2 (lv ad one (kk+1)).2,?_,?_⟩
      · rintro σ' H'' ⟨kvs2,q,refs2,x,y,rfl,s3,hd3,vr3,hq3,tl3⟩;refine ⟨_,?_,kk+1,kvs2,q,refs2,_,_,_,rfl,s3,hd3,vr3,hq3,tl3,rfl⟩;have hl:=(Lv.next cl (LA kk)).2;have hl2:=(LA (kk+1)).len;rw [if_neg hne2];have hlv:(lv ad one (kk+1)).1.length=(lv ad one kk).1.length+(lv ad one (kk+1)).2.length:=hl;by_cases q0:(lv ad one (kk+1)).2=[]
        · rw [if_pos q0];rw [q0] at hlv;simp at hlv;omega
        · rw [if_neg q0];have:1<=(lv ad one (kk+1)).2.length:=List.length_pos_iff.mpr q0;omega
      · walk_at "w";intro q hq;walk_at "w";have hqd:d≠q:=Ap hd' hq;have hqE:ers H' d q=none:=by unfold ers;rw [if_neg hqd.symm];exact hq
        have sq:=Af (o:=HO.lst []) hq;refine ⟨mt,rfl,⟨_,SqL.of (sq _ _ hmt)⟩,AH (H0:=ers H' d) (B6 (SqL.of (CM hmt hmtd))) (λ i σ H3=>∃ (kv3:List (List Key × V)) (lr:List V) (y z:Option V),σ=[some (.ref o),some (.ref b),some (.ref d),some (.ref mt),some (.ref q),y,z]/\Same (ers H' d) H3/\H3 d=some (.dT kv3)/\VR (NW H) (((lv ad one kk).2.take i).foldl (goT ad) ((lv ad one kk).1,[])).1 kv3/\H3 q=some (.lst lr)/\TL H lr (((lv ad one kk).2.take i).foldl (goT ad) ((lv ad one kk).1,[])).2) ⟨kvs,[],_,_,rfl,ers_is.trans sq,sq _ _ hd',vr,Ac,TL.nil⟩ (λ i σ H3 ⟨_,_,_,_,_,s,_⟩=>s) ?_ ?_⟩
        · rintro i σ G H3 hi ⟨kv3,lr,y,z,rfl,s',hd3,vr3,hq3,tl3⟩ s3;have hi':i<(lv ad one kk).2.length:=by rw [<-tl.len];exact hi
          replace hd3:=s3 _ _ hd3;replace hq3:=s3 _ _ hq3;have sG:=s'.trans s3;obtain ⟨bu,ebu,hbu⟩:=tl.at_ i hi';have hbu3:=sG _ _ (sE _ _ hbu);have huU:(lv ad one kk).2.getD i (false,0)∈U:=(LA kk).sub2 _ (L2.getD_mem hi');have g0:Good U (lv ad one kk).1.length ((lv ad one kk).1,([]:List Th)):=⟨(LA kk).nd,(LA kk).sub,λ x hx=>(by cases hx),rfl,(LA kk).pre⟩;have g3:=Good.lev cl ((lv ad one kk).2.take i) g0 λ u hu=>(LA kk).inn u (Aj5 hu);have hin:(lv ad one kk).2.getD i (false,0)∈(((lv ad one kk).2.take i).foldl (goT ad) ((lv ad one kk).1,[])).1.map (·.1):=Li _ _ _ ((LA kk).inn _ (L2.getD_mem hi'));rw [ebu,LO _ _ _ hi'];generalize (lv ad one kk).2.getD i (false,0)=u at hbu hbu3 huU hin ⊢;generalize ((lv ad one kk).2.take i).foldl (goT ad) ((lv ad one kk).1,[])=acc at vr3 tl3 g3 hin ⊢;obtain ⟨l,el,rl⟩:=ov.at_ u huU;obtain ⟨l',vl,e',hl,_,tlu,_⟩:=Fs rl;cases e';walk_at "w";refine ⟨o, .ref l,rfl,el▸DGet.t (k:=thK u) (sG _ _ (sE _ _ ho)) hbu3,?_⟩;walk_at "w";refine ⟨l,rfl,⟨_,SqL.of (sG _ _ (sE _ _ hl))⟩,AH (H0:=ers H' d) (B6 (SqL.of (sE _ _ hl))) (λ j σ H4=>∃ (kv4:List (List Key × V)) (lr4:List V) (z:Option V),σ=[some (.ref o),some (.ref b),some (.ref d),some (.ref mt),some (.ref q),some (.ref bu),z]/\Same (ers H' d) H4/\H4 d=some (.dT kv4)/\VR (NW H) (((ad u).take j).foldl (AV u) acc).1 kv4/\H4 q=some (.lst lr4)/\TL H lr4 (((ad u).take j).foldl (AV u) acc).2) ⟨kv3,lr,_,rfl,sG,hd3,vr3,hq3,tl3⟩ (λ j σ H4 ⟨_,_,_,_,s,_⟩=>s) ?_ ?_⟩
          · rintro j σ G4 H4 hj ⟨kv4,lr4,z,rfl,s4',hd4,vr4,hq4,tl4⟩ s4;have hj':j<(ad u).length:=by rw [<-tlu.len];exact hj
            replace hd4:=s4 _ _ hd4;replace hq4:=s4 _ _ hq4;have sG4:=s4'.trans s4;obtain ⟨bx,ebx,hbx⟩:=tlu.at_ j hj';have hbx4:=sG4 _ _ (sE _ _ hbx);rw [ebx,LO _ _ _ hj'];generalize (ad u).getD j (false,0)=xx at hbx hbx4 ⊢;have g4:=(Good.go (u:=u) ((ad u).take j) g3 (λ x hx=>cl u huU x (Aj5 hx)) hin).1.bound;generalize ((ad u).take j).foldl (AV u) acc=ac at vr4 tl4 g4 ⊢;walk_at "w";refine ⟨d,_,rfl,DGet.t (k:=thK xx) hd4 hbx4,?_⟩;rcases vr4.val xx with ⟨v1,v2⟩ | ⟨_,_,_,vv,_,v1,_,v2⟩
            · rw [v1];have es:AV u ac xx=(ac.1++[(xx,some u)],ac.2++[xx]):=by unfold AV;rw [v2,if_neg (by decide)]
              rw [es];refine ⟨true,rfl,?_⟩;walk_at "w";have hlen:kv4.length<sizeLine:=by
                rw [vr4.len];exact Ae8 (show _<=1000 by omega) (by decide)
              refine ⟨d,_,rfl,DPut.t (k:=thK xx) hd4 hbx4 hlen,?_⟩;rw [JM _ v1];walk_at "w";have hq5:upd H4 d (HO.dT (kv4++[(thK xx,V.ref bu)])) q=_:=(Ak hqd.symm).trans hq4;have hd5:upd H4 d (HO.dT (kv4++[(thK xx,V.ref bu)])) d=_:=Ac;have s5:=Ig (o:=HO.dT (kv4++[(thK xx,V.ref bu)])) sG4;generalize upd H4 d (HO.dT (kv4++[(thK xx,V.ref bu)]))=H5 at hq5 hd5 s5 ⊢;refine tyL (SqL.of hq5) ?_;walk_at "w";refine BV hq5 ?_ ?_
              · rw [tl4.len];omega
              walk_at "w";exact ⟨_,_,_,rfl,Bc s5 hqE,(Ak hqd).trans hd5,vr4.snoc ⟨bu,rfl,hbu⟩,Ac,tl4.app (TL.one ⟨bx,rfl,hbx⟩)⟩
            · rw [v1];have es:AV u ac xx=ac:=by unfold AV;rw [v2,if_pos rfl]
              rw [es];refine ⟨false,rfl,?_⟩;walk_at "w";exact ⟨kv4,lr4,_,rfl,sG4,hd4,vr4,hq4,tl4⟩
          · rintro σ H4 ⟨kv4,lr4,z,rfl,s4,hd4,vr4,hq4,tl4⟩;rw [tlu.len,Af2] at vr4 tl4;walk_at "w";exact ⟨kv4,lr4,_,_,rfl,s4,hd4,vr4,hq4,tl4⟩
        · rintro σ H3 ⟨kv3,lr,y,z,rfl,s3,hd3,vr3,hq3,tl3⟩;rw [tl.len,Af2] at vr3 tl3;walk_at "w";exact ⟨kv3,q,lr,_,_,rfl,sE.trans s3,hd3,vr3,hq3,tl3⟩
    · have hnil:(lv ad one kk).2=[]:=by
        have:=tl.len;cases h0:(lv ad one kk).2 with
        | nil=>rfl
        | cons a as=>
          rw [h0] at this;exact absurd (show (0:Int)<(refs.length:Nat) by rw [this];simp) hne
      have hend:lv ad one kk=((lv ad one kk).1,[]):=Prod.ext rfl hnil;walk_at "w";exact k H' d kvs _ sH hd hd' vr ⟨kk,hend⟩ (hend▸LA kk)
open MG
open MG
def rkK:List Key->Nat
  | [.inr x, .inl i]=>(if x=nm true then 100000 else 0)+i.toNat
  | _=>0
def rkT (t:Th):Nat:=(if t.1=true then 100000 else 0)+t.2
theorem HL (t:Th):rkK (thK t)=rkT t:=by
  obtain ⟨b,k⟩:=t;cases b with
  | true=>show (if nm true=nm true then 100000 else 0)+((k:Nat):Int).toNat=_;rw [if_pos rfl,Ab6];rfl
  | false=>show (if nm false=nm true then 100000 else 0)+((k:Nat):Int).toNat=_;rw [if_neg (by decide),Ab6];rfl
theorem PY {t u:Th} (ht:t.2<100000) (hu:u.2<100000) (h:rkT t=rkT u):t=u:=by
  obtain ⟨a,i⟩:=t;obtain ⟨b,j⟩:=u;unfold rkT at h;cases a <;> cases b <;> simp at h ht hu ⊢ <;> omega
theorem SM {a b:Bool} {i j:Nat} (hi:i<100000) (hj:j<100000):HT.lexB (nm a) (i:Int) (nm b) (j:Int)=decide (rkT (a,i)<rkT (b,j)):=by
  unfold HT.lexB rkT;cases a <;> cases b
  · rw [if_pos rfl,decide_eq_decide];simp
  · rw [if_neg (by decide),decide_eq_true (show ((nm false).cps.toList<(nm true).cps.toList) by decide)];symm;rw [decide_eq_true_eq];simp;omega
  · rw [if_neg (by decide),decide_eq_false (show ¬ ((nm true).cps.toList<(nm false).cps.toList) by decide)];symm;rw [decide_eq_false_iff_not];simp;omega
  · rw [if_pos rfl,decide_eq_decide];simp
theorem ND {ts:List Th} (h:∀ t∈ts,t.2<100000):LexOk rkK (ts.map thK) where
  shp:=λ k hk=>by
    obtain ⟨t,_,rfl⟩:=Ab2.mp hk;exact ⟨_,_,rfl⟩
  inj:=λ k hk k' hk' e=>by
    obtain ⟨t,ht,rfl⟩:=Ab2.mp hk;obtain ⟨u,hu,rfl⟩:=Ab2.mp hk';rw [HL,HL] at e;rw [PY (h t ht) (h u hu) e]
  ord:=λ x i y j hx hy=>by
    obtain ⟨t,ht,e1⟩:=Ab2.mp hx;obtain ⟨u,hu,e2⟩:=Ab2.mp hy;rw [<-e1, <-e2,HL,HL];obtain ⟨a,k⟩:=t;obtain ⟨b,l⟩:=u;unfold thK at e1 e2;injection e1 with p1 p2;injection e2 with q1 q2;injection p2 with p2 _;injection q2 with q2 _;injection p1 with p1;injection q1 with q1;injection p2 with p2;injection q2 with q2;subst p1 p2 q1 q2;exact SM (h _ ht) (h _ hu)
theorem PN (n p:Nat) (hn:n<100000):(Ao n p).Pairwise (λ a b=>rkT a<rkT b):=by
  unfold Ao;rw [Ah6];refine ⟨?_,?_,?_⟩
  · rw [List.pairwise_map];refine Ak0.imp λ h=> ?_;unfold rkT;simp;exact h
  · rw [List.pairwise_map];refine Ak0.imp λ h=> ?_;unfold rkT;simp;exact h
  · intro a ha b hb;obtain ⟨i,hi,rfl⟩:=Ab2.mp ha;obtain ⟨j,hj,rfl⟩:=Ab2.mp hb;have:=Ac0.mp hi;unfold rkT;simp;omega
theorem VR.keys {R:Th->Option Th->V->Prop} {vis:MG.Vis} {kvs:List (List Key × V)} (h:VR R vis kvs):kvs.map (·.1)=(vis.map (·.1)).map thK:=by
  induction h with
  | nil=>rfl
  | cons h t ih=>simp only [Af0,ih]
theorem JW {α:Type} {f:α->Nat} {l:List α} (h:l.Pairwise (λ a b=>f a<f b)):l.Nodup:=h.imp λ q e=>by subst e;exact Ae5 _ q
theorem Pr {n p:Nat} {vis:MG.Vis} {ms:List (List Key)} (hn:n<=60) (hp:p<=60) (lvv:Lv (Ao n p) (vis,[])) (pm:ms.Perm ((vis.map (·.1)).map thK)) (pw:ms.Pairwise (λ a b=>rkK a<rkK b)):ms=((Ao n p).filter (has vis)).map thK:=by
  have up:=PN n p (by omega);refine QH rkK (pm.trans (List.Perm.map _ ?_)) pw ?_
  · refine (List.perm_ext_iff_of_nodup lvv.nd ((JW up).filter _)).mpr λ t=> ?_;rw [Ac7,has_iff];exact ⟨λ h=>⟨lvv.sub t h,h⟩,λ h=>h.2⟩
  · rw [List.pairwise_map];refine (up.filter _).imp λ h=> ?_;rw [HL,HL];exact h
def lfL (n:Nat) (rs:List Nat) (vis:MG.Vis):List Th:=(Ao n rs.length).filter (has vis)
theorem ov_mem {n:Nat} {rs:List Nat} {t x:Th}:x∈ovL n rs t↔okT n rs.length x/\x.1≠t.1/\(if t.1=true then (rs.getD (t.2 - 1) 0).testBit (x.2 - 1)=true else (rs.getD (x.2 - 1) 0).testBit (t.2 - 1)=false):=by
  obtain ⟨a,i⟩:=t;obtain ⟨b,j⟩:=x;unfold ovL okT;cases a with
  | true=>
    rw [if_pos rfl];simp only [Ab2,Ac7,Ac0,if_true];constructor
    · rintro ⟨k,⟨l,⟨h1,h2⟩,rfl⟩,e⟩;injection e with e1 e2;subst e1 e2;simp;exact ⟨by omega,h2⟩
    · rintro ⟨⟨h1,h2⟩,h3,h4⟩;cases b with
      | true=>exact absurd rfl h3
      | false=>
        simp at h2;exact ⟨j,⟨j - 1,⟨by omega,h4⟩,by omega⟩,rfl⟩
  | false=>
    rw [if_neg (by simp)];simp only [Ab2,Ac7,Ac0,Ab9,if_false];constructor
    · rintro ⟨k,⟨l,⟨h1,h2⟩,rfl⟩,e⟩;injection e with e1 e2;subst e1 e2;simp at h2 ⊢;exact ⟨by omega,h2⟩
    · rintro ⟨⟨h1,h2⟩,h3,h4⟩;cases b with
      | false=>exact absurd rfl h3
      | true=>
        simp at h2;exact ⟨j,⟨j - 1,⟨by omega,by simp;exact h4⟩,by omega⟩,rfl⟩
open MG
def Bp (n:Nat) (rs:List Nat) (t u:Th):Bool:= @decide (Rch (ovL n rs) t u) (Classical.propDecidable _)
theorem rel_iff {n:Nat} {rs:List Nat} {t u:Th}:Bp n rs t u=true↔Rch (ovL n rs) t u:=by
  unfold Bp;exact @decide_eq_true_iff _ (Classical.propDecidable _)
theorem B7 (n:Nat) (rs:List Nat):ML.Pre (Ao n rs.length) (Bp n rs) where
  rf:=λ t _=>rel_iff.mpr .here
  tr:=λ a _ b _ c _ h k=>rel_iff.mpr ((rel_iff.mp h).trans (rel_iff.mp k))
theorem Xp {n:Nat} {rs:List Nat} {one:Th} {vis:MG.Vis} (e:End (ovL n rs) one vis):lfL n rs vis=ML.R (Ao n rs.length) (Bp n rs) one:=by
  unfold lfL ML.R;refine Ai2 λ u _=> ?_;rw [Ae2,e.iff u,rel_iff]
theorem TL.wr {H:Hp} {l:Addr} {ls vs:List V} {o:HO} {ts:List Th} (h:TL H vs ts) (hl:H l=some (.lst ls)):TL (upd H l o) vs ts:=⟨h.len,λ i hi=>by
  obtain ⟨b,e,hb⟩:=h.at_ i hi;exact ⟨b,e,by rw [Ak (A3 hb hl (by intro z;cases z))];exact hb⟩⟩
theorem Im {H:Hp} {l b:Addr} {ls:List V} {o:HO} {r:List (List Key)} (p:KeyAt H r b) (hl:H l=some (.lst ls)):KeyAt (upd H l o) r b:=by
  obtain ⟨bs,e,le,el⟩:=p;refine ⟨bs,?_,le,λ i k c h1 h2=> ?_⟩
  · rw [Ak (A3 e hl (by intro z;cases z))];exact e
  · have q:=el i k c h1 h2;rw [Ak (A3 q hl (by intro z;cases z))];exact q
structure LK (H:Hp) (xs:List En2) (E:List (ML.En Th)):Prop where
  len:xs.length=E.length
  at_:∀ (i:Nat) (x:En2) (e:ML.En Th),xs[i]?=some x->E[i]?=some e->x.1=e.1.map thK/\KeyAt H x.1 x.2.1/\∃ ls,H x.2.2=some (.lst ls)/\TL H ls e.2
  nd:(xs.map (·.2.2)).Nodup
theorem LK.nil {H:Hp}:LK H [] []:=⟨rfl,λ i x e h=>by simp at h,List.nodup_nil⟩
theorem LK.same {H H':Hp} {xs:List En2} {E:List (ML.En Th)} (g:LK H xs E) (s:Same H H'):LK H' xs E:=⟨g.len,λ i x e h1 h2=>by
  obtain ⟨e1,e2,ls,e3,e4⟩:=g.at_ i x e h1 h2;exact ⟨e1,e2.same s,ls,s _ _ e3,e4.same s⟩,g.nd⟩
theorem LK.pair {H:Hp} {xs:List En2} {E:List (ML.En Th)} (g:LK H xs E) {i:Nat} {x:En2} (h:xs[i]?=some x):∃ e,E[i]?=some e:=by
  have hi:i<E.length:=by rw [<-g.len];exact (Ab1.mp h).1
  exact ⟨_,Aa1 hi⟩
theorem Gc {a b:List Th} (h:a.map thK=b.map thK):a=b:=List.map_inj_right (λ _ _ q=>Ew q) |>.mp h
theorem LK.keys {H:Hp} {xs:List En2} {E:List (ML.En Th)} (g:LK H xs E):xs.map (·.1)=(E.map (·.1)).map (λ k=>k.map thK):=by
  apply List.ext_getElem?;intro i;rw [Aa8,Aa8,Aa8];cases h:xs[i]? with
  | none=>
    have:E[i]?=none:=Ah3 (by rw [<-g.len];exact List.getElem?_eq_none_iff.mp h);rw [this];rfl
  | some x=>
    obtain ⟨e,he⟩:=g.pair h;rw [he];simp only [Ae9];rw [(g.at_ i x e h he).1]
theorem LK.knd {H:Hp} {xs:List En2} {E:List (ML.En Th)} (g:LK H xs E) (nd:(E.map (·.1)).Nodup):(xs.map (·.1)).Nodup:=by
  rw [g.keys];exact List.Pairwise.map _ (λ a b q z=>q (Gc z)) nd
theorem LK.more {H:Hp} {xs:List En2} {E:List (ML.En Th)} {x:En2} {k:List Th} {t:Th} {v:V} {ls:List V} (g:LK H xs E) (nd:(E.map (·.1)).Nodup) (hx:x∈xs) (hk:x.1=k.map thK) (hl:H x.2.2=some (.lst ls)) (hv:TR H v t):
    LK (upd H x.2.2 (.lst (ls++[v]))) xs (E.map λ e=>if e.1=k then (e.1,e.2++[t]) else e) where
  len:=by rw [Aa2,g.len]
  nd:=g.nd
  at_:=λ i y e h1 h2=>by
    rw [Aa8] at h2;obtain ⟨e0,he,rfl⟩:=Ah1.mp h2;obtain ⟨e1,e2,ls',e3,e4⟩:=g.at_ i y e0 h1 he;by_cases c:e0.1=k
    · have kn:=g.knd nd;have hxy:y=x:=by
        obtain ⟨j,hj⟩:=Af4.mp hx;have hi:=(Ab1.mp h1).1;have:i=j:=(List.getElem?_inj (by rw [Aa2];exact hi) kn).mp (by rw [Aa8,Aa8,h1,hj];simp only [Ae9];rw [e1,c,hk]);subst this;rw [h1] at hj;exact Ae7.inj hj
      subst hxy;rw [hl] at e3;cases e3;rw [if_pos c];exact ⟨e1,Im e2 hl,_,Ac,(e4.app (TL.one hv)).wr hl⟩
    · rw [if_neg c];have ne:y.2.2≠x.2.2:=by
        intro z;obtain ⟨j,hj⟩:=Af4.mp hx;have hi:=(Ab1.mp h1).1;have:i=j:=(List.getElem?_inj (by rw [Aa2];exact hi) g.nd).mp (by rw [Aa8,Aa8,h1,hj];simp only [Ae9];rw [z]);subst this;rw [h1] at hj;cases hj;exact c (Gc (e1.symm.trans hk))
      exact ⟨e1,Im e2 hl,ls',by rw [Ak ne];exact e3,e4.wr hl⟩
theorem LK.add {H:Hp} {xs:List En2} {E:List (ML.En Th)} {l b:Addr} {k:List Th} {t:Th} {v:V} (g:LK H xs E) (hb:KeyAt H (k.map thK) b) (hl:H l=some (.lst [])) (hn:l∉xs.map (·.2.2)) (hv:TR H v t):
    LK (upd H l (.lst [v])) (xs++[(k.map thK,b,l)]) (E++[(k,[t])]) where
  len:=by rw [Ab0,Ab0,g.len];rfl
  nd:=by
    rw [Ac5];refine Ah0.mpr ⟨g.nd,List.pairwise_singleton _ _,λ a ha c hc z=> ?_⟩;have z:a=l:=z.trans (by rw [Ab7.mp hc]);exact hn (z▸ha)
  at_:=λ i y e h1 h2=>by
    rcases Ad4 i xs.length with c | c
    · rw [Ab5 c] at h1;rw [Ab5 (by rw [<-g.len];exact c)] at h2;obtain ⟨e1,e2,ls',e3,e4⟩:=g.at_ i y e h1 h2;have ne:y.2.2≠l:=λ z=>hn (z▸Ab2.mpr ⟨y,Ad0 h1,rfl⟩);exact ⟨e1,Im e2 hl,ls',by rw [Ak ne];exact e3,e4.wr hl⟩
    · rw [Ac6 c] at h1;rw [Ac6 (by rw [<-g.len];exact c), <-g.len] at h2;cases d:i - xs.length with
      | zero=>
        rw [d] at h1 h2;cases h1;cases h2;exact ⟨rfl,Im hb hl,_,Ac,(TL.one hv).wr hl⟩
      | succ m=>rw [d] at h1;simp at h1
theorem TL.off {H:Hp} {d:Addr} {φ:Heap->Prop} {vs:List V} {o:HO} {ts:List Th} (h:TL H vs ts) (hd:H d=some (.ext φ)):TL (upd H d o) vs ts:=⟨h.len,λ i hi=>by
  obtain ⟨b,e,hb⟩:=h.at_ i hi;exact ⟨b,e,by rw [Ak (A3 hb hd (by intro z;cases z))];exact hb⟩⟩
theorem Lc {H:Hp} {d b:Addr} {φ:Heap->Prop} {o:HO} {r:List (List Key)} (p:KeyAt H r b) (hd:H d=some (.ext φ)):KeyAt (upd H d o) r b:=by
  obtain ⟨bs,e,le,el⟩:=p;refine ⟨bs,?_,le,λ i k c h1 h2=> ?_⟩
  · rw [Ak (A3 e hd (by intro z;cases z))];exact e
  · have q:=el i k c h1 h2;rw [Ak (A3 q hd (by intro z;cases z))];exact q
theorem LK.off {H:Hp} {d:Addr} {φ:Heap->Prop} {o:HO} {xs:List En2} {E:List (ML.En Th)} (g:LK H xs E) (hd:H d=some (.ext φ)):LK (upd H d o) xs E:=⟨g.len,λ i x e h1 h2=>by
  obtain ⟨e1,e2,ls,e3,e4⟩:=g.at_ i x e h1 h2;exact ⟨e1,Lc e2 hd,ls,by rw [Ak (A3 e3 hd (by intro z;cases z))];exact e3,e4.off hd⟩,g.nd⟩
theorem LK.find {H:Hp} {xs:List En2} {E:List (ML.En Th)} {x:En2} {k:List Th} (g:LK H xs E) (hx:x∈xs) (hk:x.1=k.map thK):k∈E.map (·.1)/\∃ ls e,H x.2.2=some (.lst ls)/\e∈E/\ls.length=e.2.length:=by
  obtain ⟨i,hi⟩:=Af4.mp hx;obtain ⟨e,he⟩:=g.pair hi;obtain ⟨e1,e2,ls,e3,e4⟩:=g.at_ i x e hi he;have em:=Ad0 he;exact ⟨Ab2.mpr ⟨e,em,Gc (e1.symm.trans hk)⟩,ls,e,e3,em,e4.len⟩
theorem SO {H:Hp} {q:Addr} {bs:List Addr} {ts:List Th} (hq:H q=some (.tup (bs.map V.ref))) (hl:bs.length=(ts.map thK).length) (hat:∀ i,i<(ts.map thK).length->H (bs.getD i 0)=some (.tup (((ts.map thK).getD i []).map kV))):KeyAt H (ts.map thK) q:=
  ⟨bs,hq,hl,λ i k c h1 h2=>by
    have hi:=(Ab1.mp h1).1;have:=hat i hi
    rwa [Aa0,Aa0,h1,h2] at this⟩
theorem Mc {H:Hp} {ps:List (Addr × HO)} (h:∀ p∈ps,H p.1=none):Same H (Gn H ps):=λ b o e=>by
  rw [Ii]
  · exact e
  · intro z;obtain ⟨p,hp,rfl⟩:=Ab2.mp z;rw [h p hp] at e;cases e
theorem SX {H:Hp} {ts:List Th} {b:Addr} (p:KeyAt H (ts.map thK) b):∃ bs,H b=some (.tup bs)/\TL H bs ts:=by
  obtain ⟨bs,e,le,el⟩:=p;rw [Aa2] at le;refine ⟨_,e,by rw [Aa2,le],λ i hi=> ?_⟩;have hb:i<bs.length:=by rw [le];exact hi
  refine ⟨bs[i],?_,?_⟩
  · rw [Aa0,Aa8,Aa1 hb];rfl
  · have:=el i (thK ts[i]) bs[i] (by rw [Aa8,Aa1 hi];rfl) (Aa1 hb);rw [Aa0,Aa1 hi];exact this
structure LyR (F:Addr->Prop) (H:Hp) (v:V) (g:List Th × List Th):Prop where
  at_:∃ t b l bs ls,v= .ref t/\H t=some (.tup [.ref b, .ref l])/\H b=some (.tup bs)/\TL H bs g.1/\H l=some (.lst ls)/\TL H ls g.2/\F l
structure LyL (F:Addr->Prop) (H:Hp) (vs:List V) (gs:List (List Th × List Th)):Prop where
  len:vs.length=gs.length
  at_:∀ i,i<gs.length->LyR F H (vs.getD i .non) (gs.getD i ([],[]))
def Cu (c:Cs):Sp:=λ vs H Q _=>∃ x n rs,vs=[.ref x]/\ClAt c.Cloth H x n rs/\ClOk n rs/\n+rs.length<128/\
  ∀ H' q refs E,Same H H'->H q=none->H' q=some (.lst refs)->LyL (FN H) (ers H' q) refs E->E.length<=n+rs.length->ML.Sq (Ao n rs.length) (Bp n rs) [] E []->Q (.ref q) H'
abbrev BA:Stmt:=top 28
theorem sc_lifted_layers:FnScope ["cloth","overs","layers","thread","lifted"] ["cloth"] (Ai BA):=⟨rfl,rfl,rfl,by decide +kernel,rfl,by decide +kernel,by decide +kernel⟩
theorem EU {f:Addr} {fd:FuncData} (F:Fun K "lifted_layers" "lifted_layers" BA f fd) (T:Txt K mg c) (c_overs_of:CallF P w K mg base "overs_of" 5 ["cloth"] (Fw c)) (c_threads_of:CallF P w K mg base "threads_of" 2 ["cloth"] (Cg c)) (c_threads_ahead:CallF P w K mg base "threads_ahead" 1 ["overs","one"] Ct):FnOk P w K mg base CX0 6 f fd ["cloth"] (Cu c):=by
  refine F.ok sc_lifted_layers (λ vs H Q E h=> ?_) (λ cdv A outer s H vs Q E hr h=> ?_)
  · obtain ⟨x,n,rs,rfl,_⟩:=h;rfl
  · obtain ⟨x,n,rs,rfl,C0,ok,h64,k⟩:=h;have hu1:=hr.units1;have n2:=ok.n2;have p2:=ok.p2;refine ⟨_,(Ad (Aq (i:=1) sc_lifted_layers.nd rfl (Or.inl rfl) (Ah c_overs_of hr (Aa (pv 0) Ab)))
      (Ad (Aq (i:=2) sc_lifted_layers.nd rfl (Or.inl rfl) NL)
      (Ad (AQ PassesOwn.never rfl (AZ (K:=K) (Ah c_threads_of (hr.mono (by decide)) (Aa (pv 0) Ab))) (Ar (i:=3) sc_lifted_layers.nd rfl (Or.inl rfl)) (Ad (Aq (i:=4) sc_lifted_layers.nd rfl (Or.inl rfl) (Cy (LQ (K:=K)) rfl (T.own _ (by decide)) Fv (Aa (Am (Mm rfl) rfl (T.own _ (by decide)) Bk (Aa (Ah c_threads_ahead (hr.mono (by decide)) (Aa (pv 1) (Aa (pv 3) Ab))) Ab)) Ab)))
      (Ae (A4 (Cr (K:=K) PySem.F.plainAttrs_list PySem.F.slot_list_append PySem.F.type_list_append AG (UO PySem.F.slot_dict_setdefault PySem.F.type_dict_setdefault (L0 hr.units) (pv 2) (Aa (pv 4) (Aa (AY Ab) Ab))) (Aa (pv 3) Ab))))))
      (Ae (An (Cy (Kn rfl) rfl (T.own _ (by decide)) Bt (Aa (RE PySem.F.slot_dict_items PySem.F.type_dict_items MF (pv 2)) Ab))))))),?_⟩
    walk_at "w";refine ⟨x,n,rs,rfl,C0,ok,λ H1 o kvo s1 ho ho1 ov=> ?_⟩;walk_at "w";intro d hd;walk_at "w";have s2:=Af (o:=d2O P w d []) hd;refine ⟨x,n,rs,rfl,(C0.same s1).same s2,ok,λ H2 m s3 hm r2=> ?_⟩;have hd2:=s3 _ _ (show upd H1 d (d2O P w d []) d=_ from Ac);have s13:=s2.trans s3;have sE:=Fe s13 hd;walk_at "w";obtain ⟨m',refs,em,g2,_,t2,_⟩:=Fs r2;cases em;have hmd:m≠d:=A3 g2 hd2 (by intro z;cases z);refine ⟨m,rfl,⟨_,SqL.of g2⟩,AH (H0:=ers H2 d) (B6 (SqL.of (CM g2 hmd))) (λ i σ H3=>∃ y z xs E,σ=[some (.ref x),some (.ref o),some (.ref d),y,z]/\Same (ers H2 d) H3/\H3 d=some (d2O P w d xs)/\LK H3 xs E/\ML.Gk (Ao n rs.length) (Bp n rs) ((Ao n rs.length).take i) E/\xs.length<=i/\∀ e∈xs,ers H2 d e.2.2=none) ⟨_,_,[],[],rfl,ers_is,hd2,LK.nil,ML.Gk.nil _ _,Aa6 _,λ e he=>by cases he⟩ (λ i σ H3 ⟨_,_,_,_,_,s,_⟩=>s) ?_ ?_⟩
    · rintro i σ H' H3 hi ⟨y,z,xs,E,rfl,s',hd',lk,gr,xl,fr⟩ s4;have hi':i<(Ao n rs.length).length:=by rw [<-t2.len];exact hi
      have sH:=s'.trans s4;have hd3:=s4 _ _ hd';obtain ⟨b,eb,hb⟩:=t2.at_ i hi';have hbd:b≠d:=A3 hb hd2 (by intro z;cases z);have hb3:=sH _ _ (CM hb hbd);have sA:=sE.trans sH;have h1:=L2.getD_mem (y:=((false,0):Th)) hi';rw [eb];walk_at "w";refine ⟨o,b,kvo,Ao n rs.length,ovL n rs,_,rfl,sA _ _ ho1,hb3,ov.same sA,h1,λ t _ y hy=>RS hy,by rw [Ba];omega,λ H4 d' kvs vis s5 hd' hd4 vr en lvv=> ?_⟩;have hlv:vis.length<=n+rs.length:=by
        have:=lvv.len
        rwa [Ba] at this
      walk_at "w";refine Nc rkK hd4 (by rw [vr.len];omega) (by
        rw [vr.keys];refine ND λ t ht=> ?_;have:=mem_allT.mp (lvv.sub t ht);unfold okT at this;have h2:=this.2;split at h2 <;> omega) λ l bs ms hl pm pw hbl hat=> ?_
      rw [vr.keys] at pm;have e:=Pr n2 p2 lvv pm pw;subst e;have s6:=Af (o:=HO.lst (bs.map V.ref)) hl;walk_at "w";refine JL (SqL.of Ac) λ q hq=> ?_;have s7:=Af (o:=HO.tup (bs.map V.ref)) hq;have s57:=s5.trans (s6.trans s7);walk_at "w";refine Ww ?_;walk_at "w";refine ⟨⟨d,xs,rfl,s57 _ _ hd3⟩,?_⟩;walk_at "w";intro p hp;walk_at "w";have s8:=Af (o:=HO.lst []) hp;have s58:=s57.trans s8;have hd8:=s58 _ _ hd3;have hp8:upd (upd (upd H4 l (HO.lst (bs.map V.ref))) q (HO.tup (bs.map V.ref))) p (HO.lst []) p=some (.lst []):=Ac;have hq8:=s8 _ _ (show upd (upd H4 l (HO.lst (bs.map V.ref))) q (HO.tup (bs.map V.ref)) q=_ from Ac);have hat8:=λ i hi=>s8 _ _ (s7 _ _ (s6 _ _ (hat i hi)));have hb8:=s58 _ _ hb3;have fp:ers H2 d p=none:=(sH.trans s57).free hp;have sX:=sH.trans s58;have lk8:=(lk.same s4).same s58;have np:p∉xs.map (·.2.2):=λ z=>by
        obtain ⟨e,em,ee⟩:=Ab2.mp z;obtain ⟨j,hj⟩:=Af4.mp em;obtain ⟨e',he'⟩:=lk.pair hj;obtain ⟨_,_,ls,h3,_⟩:=((lk.same s4).same s57).at_ j e e' hj he';rw [ee,hp] at h3;cases h3
      generalize upd (upd (upd H4 l (HO.lst (bs.map V.ref))) q (HO.tup (bs.map V.ref))) p (HO.lst [])=H8 at*;have kq:=SO hq8 hbl hat8;have eR:(Ao n rs.length).filter (has vis)=ML.R (Ao n rs.length) (Bp n rs) ((Ao n rs.length).getD i (false,0)):=Xp en;rw [eR] at kq;have gp:=gr.put h1;have hl6:i<128:=by
        rw [Ba] at hi';omega
      have tk:=DB hi';refine ⟨d,q,p,xs,_,rfl,rfl,hd8,λ e he=> ?_,lk8.knd gr.wn,kq,by omega,λ e he=> ?_,λ no=> ?_⟩
      · obtain ⟨j,hj⟩:=Af4.mp he;obtain ⟨e',he'⟩:=lk8.pair hj;exact (lk8.at_ j e e' hj he').2.1
      · have em:=List.mem_of_find?_eq_some he;have ek:e.1=(ML.R (Ao n rs.length) (Bp n rs) ((Ao n rs.length).getD i (false,0))).map thK:=by
          have z:=List.find?_some he;exact of_decide_eq_true z
        obtain ⟨ik,ls,e',hls,em',ell⟩:=lk8.find em ek;have sz:ls.length<=i:=by
          rw [ell,(gr.wk e' em').1];exact Ae0 (List.length_filter_le _ _) (by rw [Ag8];omega)
        refine tyL (SqL.of hls) ?_;walk_at "w";refine ⟨e.2.2,ls,_,rfl,rfl,hls,by rw [sizeLine_eq];omega,?_⟩;walk_at "w";refine ⟨_,_,xs,_,rfl,?_,?_,lk8.more gr.wn em ek hls ⟨b,rfl,hb8⟩,?_,by omega,fr⟩
        · exact Bc sX (fr e em)
        · rw [Ak (A3 hd8 hls (by intro z;cases z))];exact hd8
        · rw [tk];unfold ML.put at gp;rw [if_pos ik] at gp;exact gp
      · have pd:p≠d:=A3 hp8 hd8 (by intro z;cases z);have hp9:=(Ak (H:=H8) (o:=d2O P w d (xs++[((ML.R (Ao n rs.length) (Bp n rs) ((Ao n rs.length).getD i (false,0))).map thK,q,p)])) pd).trans hp8;refine tyL (SqL.of hp9) ?_;walk_at "w";refine ⟨p,[],_,rfl,rfl,hp9,by show 0<sizeLine;rw [sizeLine_eq];omega,?_⟩;walk_at "w";refine ⟨_,_,_,_,rfl,?_,?_,(lk8.off hd8).add (t:=(Ao n rs.length).getD i (false,0)) (Lc kq hd8) hp9 np ⟨b,rfl,?_⟩,?_,?_,λ e he=> ?_⟩
        · exact Bc (Ig sX) fp
        · rw [Ak pd.symm];exact Ac
        · rw [Ak (A3 hb8 hd8 (by intro z;cases z))];exact hb8
        · rw [tk];unfold ML.put at gp;rw [if_neg ?_] at gp
          · exact gp
          · intro hk;obtain ⟨e',he',ee⟩:=Ab2.mp hk;have:((ML.R (Ao n rs.length) (Bp n rs) ((Ao n rs.length).getD i (false,0))).map thK)∈xs.map (·.1):=by
              rw [lk8.keys];exact Ab2.mpr ⟨_,hk,rfl⟩
            obtain ⟨x0,hx0,ex0⟩:=Ab2.mp this;have:=List.find?_eq_none.mp no x0 hx0;exact this (decide_eq_true ex0)
        · rw [Ab0,Af3];omega
        · rcases Ac4.mp he with z | z
          · exact fr e z
          · rw [Ab7.mp z];exact fp
    · rintro σ H3 ⟨y,z,xs,E,rfl,s4,hd3,lk,gr,xl,fr⟩;have e:(Ao n rs.length).take refs.length=Ao n rs.length:=by rw [t2.len,Af2]
      rw [e] at gr;have xl2:xs.length<=120:=by
        have:=t2.len;rw [Ba] at this;omega
      walk_at "w";refine Sk ?_;walk_at "w";refine ⟨⟨d,xs,rfl,hd3⟩,d,xs,rfl,rfl,hd3,λ r hr=> ?_⟩;walk_at "w";have s5:=Af (o:=viO r d) hr;refine ⟨r,d,xs,rfl,Ac,s5 _ _ hd3,by omega,λ l ts hl htl nd hts=> ?_⟩;have mp:(((l,HO.lst (ts.map V.ref))::ts.zip (xs.map prO)).map (·.1))=l::ts:=by
        rw [Af0,List.map_fst_zip];rw [htl,Aa2];exact Aa6 _
      have ndl:((((l,HO.lst (ts.map V.ref))::ts.zip (xs.map prO)).map (·.1))).Nodup:=by rw [mp];exact nd
      have fr5:∀ p∈(l,HO.lst (ts.map V.ref))::ts.zip (xs.map prO),upd H3 r (viO r d) p.1=none:=by
        intro p hp;have:p.1∈l::ts:=by rw [<-mp];exact Ab2.mpr ⟨p,hp,rfl⟩
        rcases Ac2.mp this with z | z
        · rw [z];exact hl
        · exact hts _ z
      have s6:=Mc fr5;have s56:=s5.trans s6;have sF:=s1.trans (sE.trans (s4.trans s56));have lk6:=lk.same (s5.trans (Fe s6 hl));refine k _ l (ts.map V.ref) E sF ((s1.trans (sE.trans (s4.trans s5))).free hl) (Iv ndl (.head _)) ⟨by rw [Aa2,htl,lk.len],λ i hi=> ?_⟩ (by rw [<-lk.len];have:=t2.len;rw [Ba] at this;omega) gr.sq;have hx:i<xs.length:=by rw [lk.len];exact hi
      have ht:i<ts.length:=by rw [htl];exact hx
      obtain ⟨e1,e2,ls,e3,e4⟩:=lk6.at_ i xs[i] E[i] (Aa1 hx) (Aa1 hi);rw [e1] at e2;obtain ⟨bs,e5,e6⟩:=SX e2;have eg:E.getD i ([],[])=E[i]:=by rw [Aa0,Aa1 hi];rfl
      rw [eg];refine ⟨ts[i],xs[i].2.1,xs[i].2.2,bs,ls,?_,CM (Iv ndl (.tail _ ?_)) (λ z=>(Ag2.mp nd).1 (z▸Ad9 ht)),e5,e6,e3,e4,(s1.trans sE).free (fr _ (Ad9 hx))⟩
      · rw [Aa0,Aa8,Aa1 ht];rfl
      · refine Af4.mpr ⟨i,List.getElem?_zip_eq_some.mpr ⟨Aa1 ht,?_⟩⟩;rw [Aa8,Aa1 hx];rfl
theorem JI {α β:Type} (f:α->Bool) (g:α->β) (xs:List α) (y:α):((Aa5 xs.length).filter λ i=>f (xs.getD i y)).map (λ i=>g (xs.getD i y))=(xs.filter f).map g:=by
  induction xs using MM.snoc_ind with
  | h0=>rfl
  | h1 l a ih=>
    rw [Ab0,Af3,Ai9,Ad6,Ac5,Ad6,Ac5];congr 1
    · rw [<-ih];have e1:(Aa5 l.length).filter (λ i=>f ((l++[a]).getD i y))=(Aa5 l.length).filter (λ i=>f (l.getD i y)):=Ai2 λ i hi=>by
        rw [Aa0,Ab5 (Ac0.mp hi), <-Aa0]
      rw [e1];refine Af6 λ i hi=> ?_;rw [Aa0,Ab5 (Ac0.mp (Ac7.mp hi).1), <-Aa0]
    · have e:(l++[a]).getD l.length y=a:=by rw [Aa0,Ac6 (Aa6 _)];simp
      simp only [Ae4,List.filter_nil,e];split <;> simp [e]
open MG
structure Told (H:Hp) (d:Addr) (told:List Th):Prop where
  at_:∃ kvs,H d=some (.dT kvs)/\∀ t,(A6 kvs (thK t)).isSome=decide (t∈told)
theorem Told.same {H H':Hp} {d:Addr} {told:List Th} (h:Told H d told) (s:Same H H'):Told H' d told:=
  let ⟨kvs,e,f⟩:=h.at_;⟨kvs,s _ _ e,f⟩
def GM:Sp:=λ vs H Q _=>∃ b l d bs ls,∃ e:ML.En Th,∃ told,vs=[.ref b, .ref l, .ref d]/\H b=some (.tup bs)/\TL H bs e.1/\H l=some (.lst ls)/\TL H ls e.2/\Told H d told/\e.1.length<128/\e.2.length<128/\
  ∀ H',Same H H'->Q (.bl (ML.isNx e told)) H'
abbrev EY:Stmt:=top 29
theorem Kk:FnScope ["lifted","layer","told"] ["lifted","layer","told"] (Ai EY):=⟨rfl,rfl,rfl,by decide +kernel,rfl,by decide +kernel,by decide +kernel⟩
theorem Ka {f:Addr} {fd:FuncData} (F:Fun K "is_next" "is_next" EY f fd) (T:Txt K mg c):FnOk P w K mg base CX0 1 f fd ["lifted","layer","told"] GM:=by
  refine F.ok Kk (λ vs H Q E h=> ?_) (λ cdv A outer s H vs Q E hr h=> ?_)
  · obtain ⟨b,l,d,bs,ls,e,told,rfl,_⟩:=h;rfl
  · obtain ⟨b,l,d,bs,ls,e,told,rfl,hb,tb,hl,tl,td,l1,l2,k⟩:=h;have hu1:=hr.units1;refine ⟨_,(Ae (An (EA Cz (Al AC (Am (Bf (K:=K)) rfl (T.own _ (by decide)) boot_len (Aa (AK (Uh (K:=K) (pv 0)) (λ _ _ _ _=>(B8 (N0 (SV hu1 (pv 0) (pv 1))))) (λ _ _ _ _=>(pv 0))) Ab)) (Am (Bf (K:=K)) rfl (T.own _ (by decide)) boot_len (Aa (pv 1) Ab))) (Am (Bf (K:=K)) rfl (T.own _ (by decide)) boot_len (Aa (pv 0) Ab)) (Aw _)))),?_⟩;walk_at "w";have lb:=tb.len;have lt:=tl.len;refine ⟨b,rfl,⟨_,SqT.of hb⟩,λ D hD=> ?_⟩;refine E2 (m:=1) (p:=λ j=>decide (e.1.getD j (false,0)∈told)) (G:=λ j=>dTh (e.1.getD j (false,0))) (O3 (SqT.of hb) rfl) hD (by omega) ?_ ?_ ?_
    · intro j H1 R hj s1 kk;obtain ⟨bj,ebj,hbj⟩:=tb.at_ j (by omega);rw [ebj];walk_at "w";obtain ⟨kvs,hd,hk⟩:=td.at_;refine ⟨d,_,rfl,DGet.t (k:=thK (e.1.getD j (false,0))) (s1 _ _ hd) (s1 _ _ hbj),?_⟩;rw [hk];exact ⟨_,rfl,kk H1 (Same.refl _)⟩
    · intro j H1 R hj hp s1 kk;obtain ⟨bj,ebj,hbj⟩:=tb.at_ j (by omega);rw [ebj];walk_at "w";exact kk H1 _ (Same.refl _) (QN ⟨bj,rfl,s1 _ _ hbj⟩)
    · intro H1 ys s1 hl1 r1;rw [lb,JI (λ t=>decide (t∈told)) dTh e.1 (false,0)] at r1;obtain ⟨D',dr,eD,hD1,_,tD,_⟩:=Fs r1;cases eD;have ld:=tD.len;walk_at "w";refine AN (SqL.of hD1) ?_;walk_at "w";refine AN (SqL.of (s1 _ _ hl)) ?_;walk_at "w";refine Lo (SqT.of (s1 _ _ hb)) ?_;walk_at "w";have e1:decide (((dr.length:Int)+(ls.length:Int))=(bs.length:Int))=ML.isNx e told:=by
        have z:∀ q:Th->Bool,(∀ t,q t=decide (t∈told))->(e.1.filter q).length=dr.length:=λ q hq=>by
          rw [show q=λ t=>decide (t∈told) from funext hq];exact ld.symm
        unfold ML.isNx;rw [z]
        · rw [decide_eq_decide, <-lt, <-lb];omega
        · exact λ t=>decide_eq_decide.mpr Iff.rfl
      rw [e1];exact k H1 s1
open MG
theorem LyR.same {F:Addr->Prop} {H H':Hp} {v:V} {g:List Th × List Th} (h:LyR F H v g) (s:Same H H'):LyR F H' v g:=
  let ⟨t,b,l,bs,ls,e1,e2,e3,e4,e5,e6,e7⟩:=h.at_;⟨t,b,l,bs,ls,e1,s _ _ e2,s _ _ e3,e4.same s,s _ _ e5,e6.same s,e7⟩
theorem LyL.same {F:Addr->Prop} {H H':Hp} {vs:List V} {gs:List (List Th × List Th)} (h:LyL F H vs gs) (s:Same H H'):LyL F H' vs gs:=⟨h.len,λ i hi=>(h.at_ i hi).same s⟩
theorem Ri {xs:List V} {s:Nat} (h:s<xs.length):atI xs ((s:Nat):Int)=some (xs.getD s .non):=by
  unfold atI ixN;rw [if_pos (by omega),if_pos (by omega)];simp only [Option.bind_some,Ab6];rw [Aa0,Aa1 h];rfl
def DR:Sp:=λ vs H Q _=>∃ q d refs,∃ (W:List (ML.En Th)) (F:Addr->Prop),∃ told,vs=[.ref q, .ref d]/\H q=some (.lst refs)/\LyL F H refs W/\Told H d told/\(∀ e∈W,e.1.length<128/\e.2.length<128)/\(∃ e∈W,ML.isNx e told=true)/\W.length<128/\
  ∀ H' i e,Same H H'->W[i]?=some e->ML.isNx e told=true->(∀ j e',j<i->W[j]?=some e'->ML.isNx e' told=false)->Q (.int (i:Nat)) H'
abbrev CC:Stmt:=top 30
theorem sc_next_place:FnScope ["waiting","told","place"] ["waiting","told"] (Ai CC):=⟨rfl,rfl,rfl,by decide +kernel,rfl,by decide +kernel,by decide +kernel⟩
theorem Hu {f:Addr} {fd:FuncData} (F:Fun K "next_place" "next_place" CC f fd) (T:Txt K mg c) (c_is_next:CallF P w K mg base "is_next" 1 ["lifted","layer","told"] GM):FnOk P w K mg base CX0 2 f fd ["waiting","told"] DR:=by
  refine F.ok sc_next_place (λ vs H Q E h=> ?_) (λ cdv A outer s H vs Q E hr h=> ?_)
  · obtain ⟨q,d,refs,W,F,told,rfl,_⟩:=h;rfl
  · obtain ⟨q,d,refs,W,Fr,told,rfl,hq,ly,td,small,ex,wl,k⟩:=h;refine ⟨_,(Ad (Aq (i:=2) sc_next_place.nd rfl (Or.inl rfl) Ag)
      (Ad (Gh PassesOwn.never (De (Bu (Ah c_is_next hr (Aa (AX (BQ (K:=K)) (AX (Dj (K:=K)) (pv 0) (pv 2) (λ _ _=>rfl)) Ag (λ _ _=>rfl)) (Aa (AX (BQ (K:=K)) (AX (Dj (K:=K)) (pv 0) (pv 2) (λ _ _=>rfl)) Ag (λ _ _=>rfl)) (Aa (pv 1) Ab)))))) (Ae (Of (i:=2) sc_next_place.nd rfl (Or.inl rfl) Ag Po)))
      (Ae (An (pv 2))))),?_⟩
    walk_at "w";obtain ⟨e0,he0,nx0⟩:=ex;obtain ⟨j0,hj0⟩:=Af4.mp he0;refine ⟨λ w σ H'=>∃ i:Nat,σ=[some (.ref q),some (.ref d),some (.int (i:Nat))]/\Same H H'/\i<=j0/\(∀ j e',j<i->W[j]?=some e'->ML.isNx e' told=false)/\w=W.length - i,⟨_,0,rfl,Same.refl _,Ad3 _,λ j e' h=>absurd h (Nat.not_lt_zero _),rfl⟩,?_⟩;rintro w0 σ H' ⟨i,rfl,sH,ij,mn,rfl⟩;have hj:=(Ab1.mp hj0).1;have hi:i<W.length:=by omega
    have hir:i<refs.length:=by rw [ly.len];exact hi
    obtain ⟨t,b,l,bs,ls,e1,e2,e3,e4,e5,e6,_⟩:=((ly.same sH).at_ i hi).at_;have eg:W.getD i ([],[])=W[i]:=by rw [Aa0,Aa1 hi];rfl
    rw [eg] at e4 e6;have at1:atI refs ((i:Nat):Int)=some (.ref t):=by
      rw [Ri hir];exact congrArg some e1
    walk_at "w";refine BK (SqL.of (sH _ _ hq)) at1 ?_;walk_at "w";refine Bd (SqT.of e2) rfl ?_;walk_at "w";refine BK (SqL.of (sH _ _ hq)) at1 ?_;walk_at "w";refine Bd (SqT.of e2) rfl ?_;walk_at "w";have sm:=small W[i] (Ad9 hi);refine ⟨b,l,d,bs,ls,W[i],told,rfl,e3,e4,e5,e6,td.same sH,sm.1,sm.2,λ H1 s1=>⟨_,rfl,?_⟩⟩;have sT:=sH.trans s1;cases c:ML.isNx W[i] told with
    | false=>
      rw [if_pos (show (!false)=true from rfl)];refine ⟨λ σ G=>σ=[some (.ref q),some (.ref d),some (.int ((i+1:Nat):Int))]/\Same H G,λ σ G ⟨z,sG⟩=>⟨W.length - (i+1),by omega,i+1,z,sG,?_,λ j e' hj he=> ?_,rfl⟩,?_⟩
      · rcases Ad4 i j0 with z | z
        · exact z
        · have:i=j0:=by omega
          subst this;rw [Aa1 hi] at hj0;cases hj0;rw [c] at nx0;cases nx0
      · rcases Ad4 j i with z | z
        · exact mn j e' z he
        · have:j=i:=by omega
          subst this;rw [Aa1 hi] at he;cases he;exact c
      · walk_at "w";refine ⟨.int ((i:Nat):Int),rfl,?_⟩;walk_at "w";exact ⟨rfl,sT⟩
    | true=>
      rw [if_neg (show ¬ ((!true)=true) from Ab4)];walk_at "w";exact k H1 i W[i] sT (Aa1 hi) c mn
open MG
structure LsL (F:Addr->Prop) (H:Hp) (vs:List V) (Ls:List (List Th)):Prop where
  len:vs.length=Ls.length
  at_:∀ i,i<Ls.length->∃ l ls,vs.getD i .non= .ref l/\H l=some (.lst ls)/\TL H ls (Ls.getD i [])/\F l
theorem LsL.same {F:Addr->Prop} {H H':Hp} {vs:List V} {Ls:List (List Th)} (h:LsL F H vs Ls) (s:Same H H'):LsL F H' vs Ls:=⟨h.len,λ i hi=>by
  obtain ⟨l,ls,e1,e2,e3,e4⟩:=h.at_ i hi;exact ⟨l,ls,e1,s _ _ e2,e3.same s,e4⟩⟩
theorem LsL.nil {F:Addr->Prop} {H:Hp}:LsL F H [] []:=⟨rfl,λ i hi=>by cases hi⟩
theorem LsL.snoc {F:Addr->Prop} {H:Hp} {vs:List V} {Ls:List (List Th)} {l:Addr} {ls:List V} {ts:List Th} (h:LsL F H vs Ls) (hl:H l=some (.lst ls)) (t:TL H ls ts) (f:F l):LsL F H (vs++[.ref l]) (Ls++[ts]):=⟨by rw [Ab0,Ab0,h.len];rfl,λ i hi=>by
  rcases Ad4 i Ls.length with z | z
  · obtain ⟨l',ls',e1,e2,e3,e4⟩:=h.at_ i z;refine ⟨l',ls',?_,e2,?_,e4⟩
    · rw [Aa0,Ab5 (by rw [h.len];exact z), <-Aa0];exact e1
    · rw [Aa0,Ab5 z, <-Aa0];exact e3
  · have:i=Ls.length:=by rw [Ab0,Af3] at hi;omega
    subst this;refine ⟨l,ls,?_,hl,?_,f⟩
    · rw [<-h.len,Aa0,Ag4];rfl
    · rw [Aa0,Ag4];exact t⟩
theorem Gp {β:Type} (l:List β) (i j:Nat) (d:β):(l.eraseIdx i).getD j d=if j<i then l.getD j d else l.getD (j+1) d:=by
  rw [Aa0,List.getElem?_eraseIdx];split <;> rw [Aa0]
theorem LyL.erase {F:Addr->Prop} {H:Hp} {vs:List V} {W:List (List Th × List Th)} (h:LyL F H vs W) {i:Nat} (hi:i<W.length):LyL F H (vs.eraseIdx i) (W.eraseIdx i):=by
  have l1:=List.length_eraseIdx_of_lt hi;have l2:=List.length_eraseIdx_of_lt (l:=vs) (by rw [h.len];exact hi);have hl:=h.len;refine ⟨by omega,λ j hj=> ?_⟩;rw [Gp,Gp];split
  · exact h.at_ j (by omega)
  · exact h.at_ (j+1) (by omega)
def Tld (kvs:List (List Key × V)) (told:List Th):Prop:=∀ t,(A6 kvs (thK t)).isSome=decide (t∈told)
theorem Tld.put {kvs:List (List Key × V)} {told:List Th} {t:Th} {v:V} (h:Tld kvs told):Tld (C9 kvs (thK t) v) (told++[t]):=λ u=>by
  rw [GE];by_cases e:u=t
  · subst e;rw [if_pos rfl];simp
  · rw [if_neg (λ q=>e (Ew q)),h u,decide_eq_decide,Ac4,Ab7];simp [e]
def CO (c:Cs):Sp:=λ vs H Q _=>∃ x n rs,vs=[.ref x]/\ClAt c.Cloth H x n rs/\ClOk n rs/\n+rs.length<128/\
  ∀ H' q refs Ls,Same H H'->H q=none->H' q=some (.lst refs)->LsL (FN H) (ers H' q) refs Ls->ML.Sq (Ao n rs.length) (Bp n rs) Ls [] Ls.flatten->Q (.ref q) H'
theorem Ln {n:Nat} {rs:List Nat} {Ls:List (List Th)} {W:List (ML.En Th)} {told:List Th} (st:ML.St (Ao n rs.length) (Bp n rs) Ls W told) {e:ML.En Th} (he:e∈W):e.1.length<=n+rs.length/\e.2.length<=n+rs.length:=by
  obtain ⟨e2,t,_,e1⟩:=st.wk e he;rw [e2,e1, <-Ba];exact ⟨List.length_filter_le _ _,List.length_filter_le _ _⟩
abbrev Dr:Stmt:=top 31
theorem sc_layers_of:FnScope ["cloth","waiting","told","layers","layer","thread"] ["cloth"] (Ai Dr):=⟨rfl,rfl,rfl,by decide +kernel,rfl,by decide +kernel,by decide +kernel⟩
theorem Ij {f:Addr} {fd:FuncData} (F:Fun K "layers_of" "layers_of" Dr f fd) (T:Txt K mg c) (c_lifted_layers:CallF P w K mg base "lifted_layers" 6 ["cloth"] (Cu c)) (c_next_place:CallF P w K mg base "next_place" 2 ["waiting","told"] DR):FnOk P w K mg base CX0 7 f fd ["cloth"] (CO c):=by
  refine F.ok sc_layers_of (λ vs H Q E h=> ?_) (λ cdv A outer s H vs Q E hr h=> ?_)
  · obtain ⟨x,n,rs,rfl,_⟩:=h;rfl
  · obtain ⟨x,n,rs,rfl,C0,ok,h64,k⟩:=h;have hu1:=hr.units1;refine ⟨_,(Ad (Aq (i:=1) sc_layers_of.nd rfl (Or.inl rfl) (Ah c_lifted_layers hr (Aa (pv 0) Ab)))
      (Ad (Aq (i:=2) sc_layers_of.nd rfl (Or.inl rfl) GL)
      (Ad (Aq (i:=3) sc_layers_of.nd rfl (Or.inl rfl) (AY Ab))
      (Ad (Gh PassesOwn.never (As QF (Am (Bf (K:=K)) rfl (T.own _ (by decide)) boot_len (Aa (pv 1) Ab)) Ag (Aw _)) (Ad (Aq (i:=4) sc_layers_of.nd rfl (Or.inl rfl) (AX (BQ (K:=K)) (Cr (K:=K) PySem.F.plainAttrs_list PySem.F.slot_list_pop PySem.F.type_list_pop M7 (pv 1) (Aa (Ah c_next_place (hr.mono (by decide)) (Aa (pv 1) (Aa (pv 2) Ab))) Ab)) Ag (λ _ _=>rfl)))
      (Ad (A4 (Cr (K:=K) PySem.F.plainAttrs_list PySem.F.slot_list_append PySem.F.type_list_append AG (pv 3) (Aa (pv 4) Ab)))
      (Ae (AQ PassesOwn.never rfl (AZ (K:=K) (pv 4)) (Ar (i:=5) sc_layers_of.nd rfl (Or.inl rfl)) (Ae (EK hu1 (pv 2) (pv 5) C3 rfl)))))))
      (Ae (An (pv 3))))))),?_⟩
    walk_at "w";refine ⟨x,n,rs,rfl,C0,ok,h64,λ H1 wq refs E s1 hw hw1 ly el st=> ?_⟩;walk_at "w";intro td htd;walk_at "w";intro lq hlq;walk_at "w";have s2:=Af (o:=HO.dT []) htd;have s3:=Af (o:=HO.lst []) hlq;have s23:=s2.trans s3;have ht3:=s3 _ _ (show upd H1 td (HO.dT []) td=_ from Ac);have hl3:upd (upd H1 td (HO.dT [])) lq (HO.lst []) lq=_:=Ac;have sB:Same H (ers H1 wq):=Fe s1 hw;have hB:=(ers_is (H:=H1) (d:=wq)).trans s23;have bt:ers H1 wq td=none:=ers_is.free htd;have bl:ers H1 wq lq=none:=(ers_is.trans s2).free hlq;have bw:ers H1 wq wq=none:=by unfold ers;rw [if_pos rfl]
    have hw3:=s23 _ _ hw1;have nlw:wq≠lq:=Ap (s2 _ _ hw1) hlq;have ntw:wq≠td:=Ap hw1 htd;have ntl:td≠lq:=A3 ht3 hl3 (by intro z;cases z);generalize upd (upd H1 td (HO.dT [])) lq (HO.lst [])=H3 at ht3 hl3 hB hw3 ⊢;generalize ers H1 wq=B at sB hB bt bl bw ly ⊢;refine ⟨λ w σ H'=>∃ (refs Lr:List V) (kvs:List (List Key × V)) (W:List (ML.En Th)) (Ls:List (List Th)) (told:List Th) (x1 x2:Option V),σ=[some (.ref x),some (.ref wq),some (.ref td),some (.ref lq),x1,x2]/\Same B H'/\H' wq=some (.lst refs)/\LyL (FN H) B refs W/\H' lq=some (.lst Lr)/\LsL (FN H) B Lr Ls/\H' td=some (.dT kvs)/\Tld kvs told/\kvs.length<=told.length/\ML.Sq (Ao n rs.length) (Bp n rs) Ls W told/\told.length+128*W.length<=16384/\Ls.length+W.length<128/\w=W.length,⟨_,refs,[],[],E,[],[],_,_,rfl,hB,hw3,ly,hl3,LsL.nil,ht3,λ t=>by simp [A6],Aa6 _,st,by simp;omega,by simp;omega,rfl⟩,?_⟩;clear st ly hw3 ht3 hl3 hB el hw1 refs;rintro w0 σ H' ⟨refs,Lr,kvs,W,Ls,told,x1,x2,rfl,sH,hw',ly,hl',lsl,ht',tld,kl,st,b1,b2,rfl⟩;walk_at "w";refine AN (SqL.of hw') ?_;walk_at "w";refine IA (λ hne=> ?_) (λ hne=> ?_)
    · have hW:W≠[]:=λ z=>by
        have:=ly.len;rw [z] at this;simp at this;rw [this] at hne;simp at hne
      refine ⟨λ σ H'=>∃ (refs Lr:List V) (kvs:List (List Key × V)) (W':List (ML.En Th)) (Ls:List (List Th)) (told:List Th) (x1 x2:Option V),σ=[some (.ref x),some (.ref wq),some (.ref td),some (.ref lq),x1,x2]/\Same B H'/\H' wq=some (.lst refs)/\LyL (FN H) B refs W'/\H' lq=some (.lst Lr)/\LsL (FN H) B Lr Ls/\H' td=some (.dT kvs)/\Tld kvs told/\kvs.length<=told.length/\ML.Sq (Ao n rs.length) (Bp n rs) Ls W' told/\told.length+128*W'.length<=16384/\Ls.length+W'.length<128/\W'.length<W.length,?_,?_⟩
      · rintro σ' H'' ⟨refs,Lr,kvs,W',Ls,told,x1,x2,rfl,q1,q2,q3,q4,q5,q6,q7,q8,q9,q10,q11,q12⟩;exact ⟨_,q12,refs,Lr,kvs,W',Ls,told,x1,x2,rfl,q1,q2,q3,q4,q5,q6,q7,q8,q9,q10,q11,rfl⟩
      · walk_at "w";refine tyL (SqL.of hw') ?_;walk_at "w";refine ⟨wq,td,refs,W,_,told,rfl,hw',ly.same sH,⟨kvs,ht',tld⟩,λ e he=> ?_,st.st.next (B7 n rs) hW,by omega,λ H4 i e s4 hi nx mn=> ?_⟩
        · have:=Ln st.st he;omega
        walk_at "w";have hiW:=(Ab1.mp hi).1;have hir:i<refs.length:=by rw [ly.len];exact hiW
        obtain ⟨t,b,l,bs,ls,e1,e2,e3,e4,e5,e6,e7⟩:=(ly.at_ i hiW).at_;have eg:W.getD i ([],[])=e:=by rw [Aa0,hi];rfl
        rw [eg] at e4 e6;have er:refs[i]?=some (.ref t):=by
          rw [Aa0,Aa1 hir] at e1;rw [Aa1 hir];exact congrArg some e1
        have hix:seqIndex? ((i:Nat):Int) refs.length=some i:=by
          unfold seqIndex?;have h0:¬ ((i:Nat):Int)<0:=by omega
          simp only [if_neg h0];rw [if_pos (by simp;omega)];simp
        refine ⟨wq,refs,i,i, .ref t,rfl,rfl,s4 _ _ hw',by omega,by omega,hix,er,?_⟩;have s5:Same B (upd H4 wq (HO.lst (refs.eraseIdx i))):=Bc (sH.trans s4) bw;have hl5:upd H4 wq (HO.lst (refs.eraseIdx i)) lq=_:=(Ak nlw.symm).trans (s4 _ _ hl');have ht5:upd H4 wq (HO.lst (refs.eraseIdx i)) td=_:=(Ak ntw.symm).trans (s4 _ _ ht');have hw5:upd H4 wq (HO.lst (refs.eraseIdx i)) wq=_:=Ac;generalize upd H4 wq (HO.lst (refs.eraseIdx i))=H5 at s5 hl5 ht5 hw5 ⊢;walk_at "w";refine Bd (SqT.of (s5 _ _ e2)) (AT (j:=1) rfl) ?_;walk_at "w";refine tyL (SqL.of hl5) ?_;walk_at "w";refine BV hl5 (by rw [lsl.len];omega) ?_;have s6:Same B (upd H5 lq (HO.lst (Lr++[V.ref l]))):=Bc s5 bl;have ht6:upd H5 lq (HO.lst (Lr++[V.ref l])) td=_:=(Ak ntl).trans ht5;have hw6:upd H5 lq (HO.lst (Lr++[V.ref l])) wq=_:=(Ak nlw).trans hw5;have hl6:upd H5 lq (HO.lst (Lr++[V.ref l])) lq=_:=Ac;generalize upd H5 lq (HO.lst (Lr++[V.ref l]))=H6 at s6 ht6 hw6 hl6 ⊢;walk_at "w";have el2:=e6.len;have small:=Ln st.st (Ad0 hi);refine ⟨l,rfl,⟨_,SqL.of (s6 _ _ e5)⟩,AH (H0:=B) (B6 (SqL.of e5)) (λ j σ H7=>∃ (kv:List (List Key × V)) (y:Option V),σ=[some (.ref x),some (.ref wq),some (.ref td),some (.ref lq),some (.ref l),y]/\Same B H7/\H7 wq=some (.lst (refs.eraseIdx i))/\H7 lq=some (.lst (Lr++[.ref l]))/\H7 td=some (.dT kv)/\Tld kv (told++e.2.take j)/\kv.length<=told.length+j) ⟨kvs,_,rfl,s6,hw6,hl6,ht6,by rw [List.take_zero,Ah8];exact tld,kl⟩ (λ j σ H7 ⟨_,_,_,s,_⟩=>s) ?_ ?_⟩
        · rintro j σ G H7 hj ⟨kv,y,rfl,s',hw7,hl7,ht7,tl7,k7⟩ s7;have hj':j<e.2.length:=by rw [<-el2];exact hj
          obtain ⟨bj,ebj,hbj⟩:=e6.at_ j hj';have sG:=s'.trans s7;rw [ebj];walk_at "w";refine ⟨td,_,rfl,DPut.t (k:=thK (e.2.getD j (false,0))) (s7 _ _ ht7) (sG _ _ hbj) (Ae8 (show kv.length<=100000 by omega) (by decide)),?_⟩;walk_at "w";refine ⟨_,_,rfl,Bc sG bt,(Ak ntw).trans (s7 _ _ hw7),(Ak ntl.symm).trans (s7 _ _ hl7),Ac,?_,?_⟩
          · rw [DB hj', <-Af1];exact tl7.put
          · have:=Ca kv (thK (e.2.getD j (false,0))) (.bl true);omega
        · rintro σ H7 ⟨kv,y,rfl,s7,hw7,hl7,ht7,tl7,k7⟩;rw [el2,Af2] at tl7;walk_at "w";have lW:=List.length_eraseIdx_of_lt hiW;refine ⟨_,_,kv,W.eraseIdx i,Ls++[e.2],told++e.2,_,_,rfl,s7,hw7,ly.erase hiW,hl7,lsl.snoc e5 e6 e7,ht7,tl7,by rw [Ab0];omega,st.step (B7 n rs) (FZ _ _) hi nx mn,by rw [Ab0];omega,by rw [Ab0,Af3];omega,by omega⟩
    · have hnil:W=[]:=by
        have:=ly.len;cases h0:W with
        | nil=>rfl
        | cons a as=>
          rw [h0] at this;exact absurd (show (0:Int)<(refs.length:Nat) by rw [this];simp) hne
      subst hnil;walk_at "w";have e:=st.st.fl;subst e;exact k H' lq Lr Ls (sB.trans sH) (sB.free bl) hl' (lsl.same (Fe sH bl)) st
open MG
structure LvO (kvs:List (List Key × V)) (n:Nat) (rs:List Nat) (lvl:Th->Nat):Prop where
  at_:∀ t∈Ao n rs.length,A6 kvs (thK t)=some (nV (lvl t))
  eq:∀ t∈Ao n rs.length,∀ u∈Ao n rs.length,lvl t=lvl u↔Rch (ovL n rs) t u/\Rch (ovL n rs) u t
  ord:∀ t∈Ao n rs.length,∀ u∈Ao n rs.length,Rch (ovL n rs) t u->lvl u<=lvl t
def lvP (Ls:List (List Th)) (t:Th):List Key × V:=(thK t,nV (ML.lvl Ls t))
theorem Kr (Ls:List (List Th)) (t:Th):∀ ds:List Th,A6 (ds.map (lvP Ls)) (thK t)=if t∈ds then some (nV (ML.lvl Ls t)) else none
  | []=>rfl
  | d::ds=>by
    rw [Af0];by_cases e:d=t
    · subst e;rw [if_pos (Ae1 ..)];exact AW rfl
    · have z:A6 (lvP Ls d::ds.map (lvP Ls)) (thK t)=A6 (ds.map (lvP Ls)) (thK t):=AU (p:=lvP Ls d) (λ q=>e (Ew q));rw [z,Kr Ls t ds];by_cases c:t∈ds
      · rw [if_pos c,if_pos (Ad1 _ c)]
      · rw [if_neg c,if_neg λ q=>by
          rcases Ac2.mp q with w | w
          · exact e w.symm
          · exact c w]
theorem Tf {n:Nat} {rs:List Nat} {Ls:List (List Th)} (st:ML.St (Ao n rs.length) (Bp n rs) Ls [] Ls.flatten):LvO (Ls.flatten.map (lvP Ls)) n rs (ML.lvl Ls) where
  at_:=λ t ht=>by
    rw [Kr,if_pos ((st.perm (B7 n rs) (FZ _ _)).mem_iff.mpr ht)]
  eq:=λ t ht u hu=>by rw [st.lvl_eq (B7 n rs) ht hu,rel_iff,rel_iff]
  ord:=λ t ht u hu h=>st.lvl_ord ht hu (rel_iff.mpr h)
theorem Ic {Ls:List (List Th)} {i:Nat} {l:List Th} (h:Ls[i]?=some l):(Ls.take (i+1)).flatten=(Ls.take i).flatten++l:=by
  rw [List.take_add_one,h];simp
theorem Tb {Ls:List (List Th)} (nd:Ls.flatten.Nodup) {i j:Nat} {l:List Th} (h:Ls[i]?=some l) (hj:j<l.length):l.getD j (false,0)∉(Ls.take i).flatten++l.take j:=by
  have hi:=(Ab1.mp h).1;have e:Ls=Ls.take (i+1)++Ls.drop (i+1):=(Af5 ..).symm;rw [e,List.flatten_append,Ic h,Ah0] at nd;have nd:=nd.1;have e2:l=l.take (j+1)++l.drop (j+1):=(Af5 ..).symm;rw [e2,DB hj, <-Af1, <-Af1,Ah0] at nd;have nd:=nd.1;rw [Ah0] at nd;exact λ z=>nd.2.2 _ z _ (Ab7.mpr rfl) rfl
open MG
def Dx (c:Cs):Sp:=λ vs H Q _=>∃ x n rs,∃ e p:Nat,vs=[.ref x,nV e,nV p]/\ClAt c.Cloth H x n rs/\1<=e/\e<=100/\1<=p/\p<=rs.length/\Q (.bl ((rs.getD (p - 1) 0).testBit (e - 1))) H
abbrev Ck:Stmt:=A2 (top 17) 6
theorem F6:FnScope ["self","end","pick"] ["self","end","pick"] (Ai Ck):=⟨rfl,rfl,rfl,by decide +kernel,rfl,by decide +kernel,by decide +kernel⟩
theorem Ge {f:Addr} {fd:FuncData} (F:Fun K "is_up" "Cloth.is_up" Ck f fd) (T:Txt K mg c) (c_has_number:CallF P w K mg base "has_number" 2 ["mask","number"] Bx):FnOk P w K mg base CX0 3 f fd ["self","end","pick"] (Dx c):=by
  refine F.ok F6 (λ vs H Q E h=> ?_) (λ cdv A outer s H vs Q E hr h=> ?_)
  · obtain ⟨x,n,rs,e,p,rfl,_⟩:=h;rfl
  · obtain ⟨x,n,rs,e,p,rfl,⟨dx,t,h1,h2⟩,e1,e2,p1,p2,k⟩:=h;refine ⟨_,(Ae (An (Ah c_has_number hr (Aa (AX (BQ (K:=K)) (GA (K:=K) (pv 0) rfl) (Al CT (pv 2) Ag) (λ _ _=>rfl)) (Aa (pv 1) Ab))))),?_⟩;walk_at "w";refine ⟨_,_,_,_,_,rfl,h1,T.kd_Cloth.cl,T.na_Cloth_rows,rfl,?_⟩;walk_at "w";rw [show ((p:Nat):Int) - 1=((p - 1:Nat):Int) by omega];refine Bd (SqT.of h2) (BL (by omega) (by omega)) ?_;rw [Ab6];walk_at "w";exact ⟨_,e,rfl,e1,by omega,k⟩
def Aj (b:Bool) (ts:List Th):List Nat:=(ts.filter λ t=>decide (t.1=b)).map (·.2)
theorem Fx (l:List Nat) (G:Nat->Nat):(l.map λ i=>((G i:Nat):Int)).map V.int=(l.map G).map nV:=by
  rw [Ac8,Ac8];rfl
def DQ:Sp:=λ vs H Q _=>∃ (l:Addr) (ls:List V) (ts:List Th) (b:Bool),vs=[.ref l, .str (nm b)]/\H l=some (.lst ls)/\TL H ls ts/\ts.length<200/\∀ H' p,Same H H'->H p=none->H' p=some (.lst ((Aj b ts).map nV))->Q (.ref p) H'
abbrev CW:Stmt:=top 33
theorem Hl:FnScope ["layer","kind"] ["layer","kind"] (Ai CW):=⟨rfl,rfl,rfl,by decide +kernel,rfl,by decide +kernel,by decide +kernel⟩
theorem G0 {f:Addr} {fd:FuncData} (F:Fun K "numbers_in" "numbers_in" CW f fd) (T:Txt K mg c):FnOk P w K mg base CX0 1 f fd ["layer","kind"] DQ:=by
  refine F.ok Hl (λ vs H Q E h=> ?_) (λ cdv A outer s H vs Q E hr h=> ?_)
  · obtain ⟨l,ls,ts,b,rfl,_⟩:=h;rfl
  · obtain ⟨l,ls,ts,b,rfl,hl,tl,hn,k⟩:=h;have len:=tl.len;refine ⟨_,(Ae (An (AK (AZ (K:=K) (pv 0)) (λ _ _ _ _=>(B8 (As Cz (AX (BQ (K:=K)) (pv 0) Ag (λ _ _=>rfl)) (pv 1) (Aw _)))) (λ _ _ _ _=>(AX (BQ (K:=K)) (pv 0) Ag (λ _ _=>rfl)))))),?_⟩;walk_at "w";refine ⟨l,rfl,⟨_,SqL.of hl⟩,λ D hD=> ?_⟩;refine Be (p:=λ i=>decide ((ts.getD i (false,0)).1=b)) (G:=λ i=>(((ts.getD i (false,0)).2:Nat):Int)) (AM (SqL.of hl) rfl) hD (by omega) ?_ ?_ ?_
    · intro i H' R hi s kk;obtain ⟨a,ea,ha⟩:=tl.at_ i (by omega);rw [ea];walk_at "w";refine Bd (SqT.of (s _ _ ha)) (AT (j:=0) rfl) ?_;walk_at "w";have e:decide (nm (ts.getD i (false,0)).1=nm b)=decide ((ts.getD i (false,0)).1=b):=decide_eq_decide.mpr ⟨NR,λ q=>by rw [q]⟩;rw [e];exact kk H' (Same.refl _)
    · intro i H' R hi hp s kk;obtain ⟨a,ea,ha⟩:=tl.at_ i (by omega);rw [ea];walk_at "w";refine Bd (SqT.of (s _ _ ha)) (AT (j:=1) rfl) ?_;exact kk H' (Same.refl _)
    · intro H' s g;refine k H' D s hD ?_;rw [g,Fx,len,JI (λ t:Th=>decide (t.1=b)) (λ t:Th=>t.2) ts (false,0)];rfl
def Gv (rs es:List Nat) (p:Nat):Nat:=MM.mOf (((Aa5 es.length).filter λ i=>(rs.getD (p - 1) 0).testBit (es.getD i 0 - 1)).map (· + 1))
def Fo (c:Cs):Sp:=λ vs H Q _=>∃ (x:Addr) (n:Nat) (rs:List Nat) (a:Addr) (es:List Nat) (p:Nat),vs=[.ref x, .ref a,nV p]/\ClAt c.Cloth H x n rs/\H a=some (.lst (es.map nV))/\es.length<=60/\(∀ e∈es,1<=e/\e<=60)/\1<=p/\p<=rs.length/\∀ H',Same H H'->Q (nV (Gv rs es p)) H'
abbrev Ea:Stmt:=top 34
theorem JS:FnScope ["cloth","ends","pick"] ["cloth","ends","pick"] (Ai Ea):=⟨rfl,rfl,rfl,by decide +kernel,rfl,by decide +kernel,by decide +kernel⟩
theorem JU {f:Addr} {fd:FuncData} (F:Fun K "part_row" "part_row" Ea f fd) (T:Txt K mg c) (c_mask_of:CallF P w K mg base "mask_of" 2 ["numbers"] (Eh K)) (d_Cloth_is_up:BW P w K mg base c.Cloth "is_up" 3 ["self","end","pick"] (Dx c)):FnOk P w K mg base CX0 4 f fd ["cloth","ends","pick"] (Fo c):=by
  refine F.ok JS (λ vs H Q E h=> ?_) (λ cdv A outer s H vs Q E hr h=> ?_)
  · obtain ⟨x,n,rs,a,es,p,rfl,_⟩:=h;rfl
  · obtain ⟨x,n,rs,a,es,p,rfl,C0,ha,hl,he,p1,p2,k⟩:=h;obtain ⟨dx,t,h1,h2⟩:=id C0;refine ⟨_,(Ae (An (Ah c_mask_of (hr.mono (by decide)) (Aa (EJ (K:=K) (Ji (K:=K) rfl (T.own _ (by decide)) (Aa (pv 1) Ab)) (λ _ _ _ _=>(B8 (Bu (Gj (pv 2) d_Cloth_is_up hr (Aa (pv 1) (Aa (pv 3) Ab)))))) (λ _ _ _ _=>(pv 0))) Ab)))),?_⟩;walk_at "w";refine ⟨false,a,rfl,⟨_,SqL.of ha⟩,λ D hD=> ?_⟩;refine Be (p:=λ i=>(rs.getD (p - 1) 0).testBit (es.getD i 0 - 1)) (G:=λ i=>((i+1:Nat):Int)) (HI (SqL.of ha) rfl rfl) hD (by rw [Aa2];omega) ?_ ?_ ?_
    · intro i H' R hi s kk;rw [Aa2] at hi;walk_at "w";refine ⟨_,_,_,rfl,s _ _ h1,rfl,?_⟩;walk_at "w";rw [AA (by rw [Aa2];exact hi)];have hm:=he _ (L2.getD_mem (y:=0) hi);exact ⟨x,n,rs,es.getD i 0,p,rfl,C0.same s,hm.1,by omega,p1,p2,_,rfl,kk H' (Same.refl _)⟩
    · intro i H' R hi hp s kk;walk_at "w";exact kk H' (Same.refl _)
    · intro H' s g;rw [Aa2] at g;rw [show (λ i:Nat=>((i+1:Nat):Int))=(λ i=>(((λ i=>i+1) i:Nat):Int)) from rfl,Fx] at g;walk_at "w";refine ⟨false,D,_,rfl,SqL.of g,λ m hm=> ?_,λ H2 s2=>k H2 (s.trans s2)⟩;obtain ⟨j,hj,rfl⟩:=Ab2.mp hm;have:=Ac0.mp (Ac7.mp hj).1;omega
theorem KU (rs es:List Nat) (p:Nat):Gv rs es p<2 ^ es.length:=MM.mOf_lt λ m hm=>by
  obtain ⟨j,hj,rfl⟩:=Ab2.mp hm;have:=Ac0.mp (Ac7.mp hj).1;omega
def Bj (rs:List Nat) (ts:List Th):Option (Nat × List Nat):=if Aj false ts=[]\/Aj true ts=[] then none else some ((Aj false ts).length,(Aj true ts).map (Gv rs (Aj false ts)))
def ClN (c:Cs) (H:Hp) (v:V):Option (Nat × List Nat)->Prop
  | none=>v= .non
  | some a=>∃ x,v= .ref x/\ClAt c.Cloth H x a.1 a.2
theorem ClN.same {c:Cs} {H H':Hp} {v:V} {o:Option (Nat × List Nat)} (h:ClN c H v o) (s:Same H H'):ClN c H' v o:=by
  cases o with
  | none=>exact h
  | some a=>obtain ⟨x,e,q⟩:=h;exact ⟨x,e,q.same s⟩
structure PartAt (c:Cs) (F:Addr->Prop) (H:Hp) (v:V) (rs:List Nat) (ts:List Th):Prop where
  at':∃ p l1 l2 v3,v= .ref p/\H p=some (.tup [.ref l1, .ref l2,v3])/\H l1=some (.lst ((Aj false ts).map nV))/\H l2=some (.lst ((Aj true ts).map nV))/\F l1/\F l2/\ClN c H v3 (Bj rs ts)
theorem PartAt.same {c:Cs} {F:Addr->Prop} {H H':Hp} {v:V} {rs:List Nat} {ts:List Th} (h:PartAt c F H v rs ts) (s:Same H H'):PartAt c F H' v rs ts:=by
  obtain ⟨p,l1,l2,v3,e,h1,h2,h3,f1,f2,h4⟩:=h.at';exact ⟨p,l1,l2,v3,e,s _ _ h1,s _ _ h2,s _ _ h3,f1,f2,h4.same s⟩
theorem PartAt.imp {c:Cs} {F G:Addr->Prop} {H:Hp} {v:V} {rs:List Nat} {ts:List Th} (h:PartAt c F H v rs ts) (s:∀ a,F a->G a):PartAt c G H v rs ts:=by
  obtain ⟨p,l1,l2,v3,e,h1,h2,h3,f1,f2,h4⟩:=h.at';exact ⟨p,l1,l2,v3,e,h1,h2,h3,s _ f1,s _ f2,h4⟩
theorem ClN.wr {c:Cs} {H:Hp} {v:V} {o:Option (Nat × List Nat)} {D:Addr} {ys:List V} {u:HO} (h:ClN c H v o) (hD:H D=some (.lst ys)):ClN c (upd H D u) v o:=by
  cases o with
  | none=>exact h
  | some a=>
    obtain ⟨x,e,dx,t,q1,q2⟩:=h;exact ⟨x,e,dx,t,by rw [Ak (A3 q1 hD (by intro z;cases z))];exact q1,by rw [Ak (A3 q2 hD (by intro z;cases z))];exact q2⟩
theorem PartAt.wr {c:Cs} {F:Addr->Prop} {H:Hp} {v:V} {rs:List Nat} {ts:List Th} {D:Addr} {ys:List V} {u:HO} (h:PartAt c F H v rs ts) (hD:H D=some (.lst ys)) (n:¬ F D):PartAt c F (upd H D u) v rs ts:=by
  obtain ⟨p,l1,l2,v3,e,h1,h2,h3,f1,f2,h4⟩:=h.at';exact ⟨p,l1,l2,v3,e,by rw [Ak (A3 h1 hD (by intro z;cases z))];exact h1,by rw [Ak (λ z=>n (by rw [<-z];exact f1))];exact h2,by rw [Ak (λ z=>n (by rw [<-z];exact f2))];exact h3,f1,f2,h4.wr hD⟩
def GO (c:Cs):Sp:=λ vs H Q _=>∃ (x:Addr) (n:Nat) (rs:List Nat) (l:Addr) (ls:List V) (ts:List Th),vs=[.ref x, .ref l]/\ClAt c.Cloth H x n rs/\ClOk n rs/\H l=some (.lst ls)/\TL H ls ts/\ts.length<200/\(Aj false ts).length<=60/\(Aj true ts).length<=60/\(∀ e∈Aj false ts,1<=e/\e<=n)/\(∀ p∈Aj true ts,1<=p/\p<=rs.length)/\
  ∀ H' v,Same H H'->PartAt c (FN H) H' v rs ts->Q v H'
abbrev Fd:Stmt:=top 35
theorem sc_part_of:FnScope ["cloth","layer","ends","picks"] ["cloth","layer"] (Ai Fd):=⟨rfl,rfl,rfl,by decide +kernel,rfl,by decide +kernel,by decide +kernel⟩
theorem KA {f:Addr} {fd:FuncData} (F:Fun K "part_of" "part_of" Fd f fd) (T:Txt K mg c) (c_numbers_in:CallF P w K mg base "numbers_in" 1 ["layer","kind"] DQ) (c_part_row:CallF P w K mg base "part_row" 4 ["cloth","ends","pick"] (Fo c)) (m_Cloth:JJ P w K mg base "Cloth" c.Cloth 4 ["self","ends","rows"] (AR c)):FnOk P w K mg base CX0 6 f fd ["cloth","layer"] (GO c):=by
  refine F.ok sc_part_of (λ vs H Q E h=> ?_) (λ cdv A outer s H vs Q E hr h=> ?_)
  · obtain ⟨x,n,rs,l,ls,ts,rfl,_⟩:=h;rfl
  · obtain ⟨x,n,rs,l,ls,ts,rfl,C0,ok,hl,tl,tn,n1,n2,m1,m2,k⟩:=h;refine ⟨_,(Ad (Aq (i:=2) sc_part_of.nd rfl (Or.inr rfl) (Ah c_numbers_in (hr.mono (by decide)) (Aa (pv 1) (Aa (JA T.k_END) Ab))))
      (Ad (Aq (i:=3) sc_part_of.nd rfl (Or.inl rfl) (Ah c_numbers_in (hr.mono (by decide)) (Aa (pv 1) (Aa (JA T.k_PICK) Ab))))
      (Ad (Bo (PW.pt (EL (As Cz (Am (Bf (K:=K)) rfl (T.own _ (by decide)) boot_len (Aa (pv 2) Ab)) Ag (Aw _)) (Dg (As Cz (Am (Bf (K:=K)) rfl (T.own _ (by decide)) boot_len (Aa (pv 3) Ab)) Ag (Aw _))))) (Ae (An (A8 (Aa (pv 2) (Aa (pv 3) (Aa EX Ab)))))) AI)
      (Ae (An (A8 (Aa (pv 2) (Aa (pv 3) (Aa (GS m_Cloth hr (Aa (Am (Bf (K:=K)) rfl (T.own _ (by decide)) boot_len (Aa (pv 2) Ab)) (Aa (AK (AZ (K:=K) (pv 3)) (λ _ _ _ _=>AJ) (λ _ _ _ _=>(Ah c_part_row (hr.mono (by decide)) (Aa (pv 1) (Aa (pv 2) (Aa (pv 0) Ab)))))) Ab))) Ab))))))))),?_⟩
    walk_at "w";refine ⟨l,ls,ts,false,rfl,hl,tl,tn,λ H1 p1 s1 f1 g1=> ?_⟩;walk_at "w";refine ⟨l,ls,ts,true,rfl,s1 _ _ hl,tl.same s1,tn,λ H2 p2 s2 f2 g2=> ?_⟩;have s12:=s1.trans s2;have g12:=s2 _ _ g1;have fin:∀ H3 v3,Same H2 H3->ClN c H3 v3 (Bj rs ts)->∀ p,H3 p=none->Q (.ref p) (upd H3 p (.tup [.ref p1, .ref p2,v3])):=λ H3 v3 s3 cn p hp=>by
      have s4:=Af (o:=HO.tup [.ref p1, .ref p2,v3]) hp;exact k _ _ (s12.trans (s3.trans s4)) ⟨p,p1,p2,v3,rfl,Ac,s4 _ _ (s3 _ _ g12),s4 _ _ (s3 _ _ g2),f1,s1.free f2,cn.same s4⟩
    have nul:Aj false ts=[]\/Aj true ts=[]->ClN c H2 .non (Bj rs ts):=λ q=>by unfold Bj;rw [if_pos q];rfl
    walk_at "w";refine AN (SqL.of g12) ?_;walk_at "w";rw [Aa2];refine IA (λ q=> ?_) (λ q1=> ?_)
    · refine Gy ?_;walk_at "w";exact fin H2 .non (Same.refl _) (nul (.inl (List.length_eq_zero_iff.mp (by omega))))
    walk_at "w";refine AN (SqL.of g2) ?_;walk_at "w";rw [Aa2];refine IA (λ q=> ?_) (λ q2=> ?_)
    · walk_at "w";exact fin H2 .non (Same.refl _) (nul (.inr (List.length_eq_zero_iff.mp (by omega))))
    walk_at "w";refine AN (SqL.of g12) ?_;walk_at "w";rw [Aa2];refine ⟨p2,rfl,⟨_,SqL.of g2⟩,λ D hD=> ?_⟩;have C2:=C0.same s12;refine Bg (G:=λ i=>((Gv rs (Aj false ts) ((Aj true ts).getD i 0):Nat):Int)) (AM (SqL.of g2) rfl) hD (by rw [Aa2];omega) ?_ ?_
    · intro i H' R hi s kk;rw [Aa2] at hi;rw [AA (by rw [Aa2];exact hi)];have hm:=m2 _ (L2.getD_mem (y:=0) hi);walk_at "w";exact ⟨x,n,rs,p1,Aj false ts,_,rfl,C2.same s,s _ _ g12,n1,λ e he=>⟨(m1 e he).1,by have:=(m1 e he).2;have:=ok.n2;omega⟩,hm.1,hm.2,λ H3 s3=>kk H3 s3⟩
    intro H3 s3 g3;rw [Aa2,Fx] at g3;have e3:(Aa5 (Aj true ts).length).map (λ i=>Gv rs (Aj false ts) ((Aj true ts).getD i 0))=(Aj true ts).map (Gv rs (Aj false ts)):=by
      refine Ag0 (by simp) λ i a1 a2=> ?_;rw [List.getElem_map,List.getElem_map,List.getElem_range,Aa0,Aa1 (by simpa using a2)];rfl
    rw [e3] at g3;walk_at "w";refine N9 (n:=(Aj false ts).length) g3 ⟨by omega,n1,by rw [Aa2];omega,by rw [Aa2];exact n2,λ r hr=> ?_⟩ λ H4 y s4 hy C4=> ?_
    · obtain ⟨q,_,rfl⟩:=Ab2.mp hr;exact KU _ _ _
    walk_at "w";refine fin H4 (.ref y) (s3.trans s4) ?_;unfold Bj;rw [if_neg (λ q=>q.elim (λ z=>q1 (by rw [z];rfl)) (λ z=>q2 (by rw [z];rfl)))];exact ⟨y,rfl,C4⟩
structure PsL (c:Cs) (F:Addr->Prop) (H:Hp) (vs:List V) (rs:List Nat) (Ls:List (List Th)):Prop where
  len:vs.length=Ls.length
  at_:∀ i,i<Ls.length->PartAt c F H (vs.getD i .non) rs (Ls.getD i [])
theorem EC (n p:Nat):Aj false (Ao n p)=(Aa5 n).map (· + 1)/\Aj true (Ao n p)=(Aa5 p).map (· + 1):=by
  have f1:∀ (b c:Bool) (m:Nat),b≠c->((Aa5 m).map λ k=>((b,k+1):Th)).filter (λ t=>decide (t.1=c))=[]:=λ b c m h=>by
    rw [Aj9];intro t ht;obtain ⟨k,_,rfl⟩:=Ab2.mp ht;simpa using h
  have f2:∀ (b:Bool) (m:Nat),((Aa5 m).map λ k=>((b,k+1):Th)).filter (λ t=>decide (t.1=b))=(Aa5 m).map λ k=>((b,k+1):Th):=λ b m=>by
    rw [List.filter_eq_self];intro t ht;obtain ⟨k,_,rfl⟩:=Ab2.mp ht;exact decide_eq_true rfl
  unfold Aj Ao;constructor
  · rw [Ad6,f2,f1 _ _ _ (by decide),Ah8,Ac8];rfl
  · rw [Ad6,f2,f1 _ _ _ (by decide),List.nil_append,Ac8];rfl
theorem Er {b:Bool} {l m:List Th} (h:l.Sublist m):(Aj b l).Sublist (Aj b m):=(h.filter _).map _
theorem BF {n:Nat} {rs:List Nat} (ok:ClOk n rs) {Ls:List (List Th)} (sq:ML.Sq (Ao n rs.length) (Bp n rs) Ls [] Ls.flatten) {l:List Th} (hl:l∈Ls):l.length<=120/\(Aj false l).length<=60/\(Aj true l).length<=60/\(∀ e∈Aj false l,1<=e/\e<=n)/\(∀ p∈Aj true l,1<=p/\p<=rs.length):=by
  obtain ⟨t,ht,rfl⟩:=sq.st.lay l hl;have sub:(ML.grp (Ao n rs.length) (Bp n rs) (ML.R (Ao n rs.length) (Bp n rs) t)).Sublist (Ao n rs.length):=List.filter_sublist;have a:=EC n rs.length;have n2:=ok.n2;have p2:=ok.p2;have l1:=(Er (b:=false) sub).length_le;have l2:=(Er (b:=true) sub).length_le;have l3:=sub.length_le;rw [a.1,Aa2,Ad7] at l1;rw [a.2,Aa2,Ad7] at l2;rw [Ba] at l3;refine ⟨by omega,by omega,by omega,λ e he=> ?_,λ p hp=> ?_⟩
  · have:=(Er (b:=false) sub).subset he;rw [a.1] at this;obtain ⟨i,hi,rfl⟩:=Ab2.mp this;have:=Ac0.mp hi;omega
  · have:=(Er (b:=true) sub).subset hp;rw [a.2] at this;obtain ⟨i,hi,rfl⟩:=Ab2.mp this;have:=Ac0.mp hi;omega
theorem Kl {n:Nat} {rs:List Nat} (ok:ClOk n rs) {Ls:List (List Th)} (sq:ML.Sq (Ao n rs.length) (Bp n rs) Ls [] Ls.flatten):Ls.length<=120:=by
  have h:=sq.len;have fl:∀ {β:Type} [DecidableEq β] (l:List β),(ML.firsts l).length<=l.length:=λ l=>by
    induction l using MM.snoc_ind with
    | h0=>exact Aa6 _
    | h1 l a ih=>
      rw [ML.firsts_snoc,Ab0];split
      · omega
      · rw [Ab0];show _+1<=_+1;omega
  have h2:=fl ((Ao n rs.length).map (ML.R (Ao n rs.length) (Bp n rs)));rw [Aa2,Ba] at h2;unfold ML.parts at h;rw [Aa2] at h;have:=ok.n2;have:=ok.p2;simp only [List.length_nil,Nat.add_zero] at h;omega
def BJ (c:Cs):Sp:=λ vs H Q _=>∃ x n rs,vs=[.ref x]/\ClAt c.Cloth H x n rs/\ClOk n rs/\n+rs.length<128/\
  ∀ H' q ps Ls,Same H H'->H q=none->H' q=some (.lst ps)->PsL c (λ a=>H a=none/\a≠q) H' ps rs Ls->ML.Sq (Ao n rs.length) (Bp n rs) Ls [] Ls.flatten->Q (.ref q) H'
abbrev Cm:Stmt:=top 36
theorem F0:FnScope ["cloth"] ["cloth"] (Ai Cm):=⟨rfl,rfl,rfl,by decide +kernel,rfl,by decide +kernel,by decide +kernel⟩
theorem F3 {f:Addr} {fd:FuncData} (F:Fun K "taken_apart" "taken_apart" Cm f fd) (T:Txt K mg c) (c_layers_of:CallF P w K mg base "layers_of" 7 ["cloth"] (CO c)) (c_part_of:CallF P w K mg base "part_of" 6 ["cloth","layer"] (GO c)):FnOk P w K mg base CX0 8 f fd ["cloth"] (BJ c):=by
  refine F.ok F0 (λ vs H Q E h=> ?_) (λ cdv A outer s H vs Q E hr h=> ?_)
  · obtain ⟨x,n,rs,rfl,_⟩:=h;rfl
  · obtain ⟨x,n,rs,rfl,C0,ok,hn,k⟩:=h;refine ⟨_,(Ae (An (AK (AZ (K:=K) (Ah c_layers_of hr (Aa (pv 0) Ab))) (λ _ _ _ _=>AJ) (λ _ _ _ _=>(Ah c_part_of (hr.mono (by decide)) (Aa (pv 1) (Aa (pv 0) Ab))))))),?_⟩;walk_at "w";refine ⟨x,n,rs,rfl,C0,ok,hn,λ H1 q1 refs Ls s1 f1 g1 lsl sq=> ?_⟩;show ∃ a,_;have sE:Same (ers H1 q1) H1:=ers_is;refine ⟨q1,rfl,⟨_,SqL.of g1⟩,λ D hD=> ?_⟩;have C1:=C0.same s1;refine Dv (Pv:=λ i y H'=>PartAt c (λ a=>H a=none/\a≠D) H' y rs (Ls.getD i [])) (AM (SqL.of g1) rfl) hD (by rw [lsl.len];exact Ae0 (Kl ok sq) (by omega)) (λ i y G1 G2 h s=>h.same s) (λ i y G1 ys o s h hD'=>h.wr hD' (λ z=>z.2 rfl)) ?_ ?_
    · intro i H' R hi s ⟨ys,hys⟩ kk;rw [lsl.len] at hi;obtain ⟨l,ls,e1,e2,e3,e4⟩:=lsl.at_ i hi;rw [e1];have hm:=L2.getD_mem (y:=[]) hi;obtain ⟨b1,b2,b3,b4,b5⟩:=BF ok sq hm;have sE':=sE.trans s;walk_at "w";refine ⟨x,n,rs,l,ls,_,rfl,C1.same s,ok,sE' _ _ e2,e3.same sE',by omega,b2,b3,b4,b5,λ H3 v s3 h3=>kk H3 v s3 (h3.imp λ a ha=>⟨s1.free (s.free ha),λ z=> ?_⟩)⟩;have ha:H' a=none:=ha;rw [z,hys] at ha;cases ha
    · intro H' ys s hl yl el;refine k H' D ys Ls (s1.trans s) (s1.free hD) hl ⟨by rw [yl,lsl.len],λ i hi=> ?_⟩ sq;exact el i _ (by rw [Aa0,Aa1 (by rw [yl,lsl.len];exact hi)];rfl)
def Dm (x k:Int):Int:=(x%1000000007+7919*k+13)*(x%1000000007+7919*k+13)%1000000007*48271%2147483647
def Cp:Sp:=λ vs H Q _=>∃ x k:Int,vs=[.int x, .int k]/\(0<=k/\k<=1000)/\Q (.int (Dm x k)) H
abbrev CZ:Stmt:=top 38
theorem sc__law_mixed:FnScope ["_law_cell","_law_k"] ["_law_cell","_law_k"] (Ai CZ):=⟨rfl,rfl,rfl,by decide +kernel,rfl,by decide +kernel,by decide +kernel⟩
theorem GU {f:Addr} {fd:FuncData} (F:Fun K "_law_mixed" "_law_mixed" CZ f fd) (T:Txt K mg c):FnOk P w K mg base CX0 1 f fd ["_law_cell","_law_k"] Cp:=by
  refine F.ok sc__law_mixed (λ vs H Q E h=> ?_) (λ cdv A outer s H vs Q E hr h=> ?_)
  · obtain ⟨x,k,rfl,_⟩:=h;rfl
  · obtain ⟨x,k,rfl,hk,q⟩:=h;refine ⟨_,(Ad (Aq (i:=0) sc__law_mixed.nd rfl (Or.inl rfl) (Al AC (Al AC (Al A7 (pv 0) Ag) (Al Cf Ag (pv 1))) Ag))
      (Ae (An (Al A7 (Al Cf (Al A7 (Al Cf (pv 0) (pv 0)) Ag) Ag) Ag)))),?_⟩
    have b1:=Int.emod_nonneg x (show (1000000007:Int)≠0 by decide);have b2:=Int.emod_lt_of_pos x (show (0:Int)<1000000007 by decide);walk_at "w";refine Az (by decide) ?_;walk_at "w";refine Az (.inl ⟨by decide,by decide⟩) ?_;walk_at "w";refine Az (.inl ⟨?_,?_⟩) ?_
    · show -(2 ^ 64)<x%1000000007+7919*k+13;omega
    · show x%1000000007+7919*k+13<2 ^ 64;omega
    walk_at "w";refine Az (by decide) ?_;walk_at "w";refine Az (.inr ⟨by decide,by decide⟩) ?_;walk_at "w";refine Az (by decide) ?_;exact q
theorem Ez (x k:Int) {m:Nat} (h:0<m):∃ s:Nat,Dm x k%(m:Nat)=(s:Nat)/\s<m:=by
  have h0:=Int.emod_nonneg (Dm x k) (show ((m:Nat):Int)≠0 by omega);have h1:=Int.emod_lt_of_pos (Dm x k) (show (0:Int)<((m:Nat):Int) by omega);exact ⟨(Dm x k%(m:Nat)).toNat,by omega,by omega⟩
theorem Q7 (s:Nat):(0:Int)<1*2 ^ ((s:Nat):Int).toNat:=by
  rw [Int.one_mul];exact Int.pow_pos (by decide)
theorem F8 (s:Nat):(1:Int)*2 ^ ((s:Nat):Int).toNat=((2 ^ s:Nat):Int):=by
  rw [Int.one_mul,Ab6];simp
theorem Rq (x:Int) (s:Nat):x%(1*2 ^ ((s:Nat):Int).toNat)=(((x%(2 ^ s:Nat)).toNat:Nat):Int):=by
  rw [F8];have:=Int.emod_nonneg x (show ((2 ^ s:Nat):Int)≠0 by have:=Nat.two_pow_pos s;omega);omega
theorem UQ (x:Int) (s:Nat):(x%(2 ^ s:Nat)).toNat<2 ^ s:=by
  have h0:=Nat.two_pow_pos s;have:=Int.emod_lt_of_pos x (show (0:Int)<((2 ^ s:Nat):Int) by omega);have:=Int.emod_nonneg x (show ((2 ^ s:Nat):Int)≠0 by omega);omega
theorem Py (m s:Nat):((m:Nat):Int) / 2 ^ ((s:Nat):Int).toNat=((m >>> s:Nat):Int):=by
  rw [Ab6,Nat.shiftRight_eq_div_pow];push_cast;rfl
def DP (K:PySem.W.Frag):Sp:=λ vs H Q _=>∃ (a:Addr) (ns:List Int),vs=[.ref a]/\SqL K H a (ns.map V.int)/\ns.length<=63/\∀ H' W,Same H H'->Q (.int W) H'
abbrev CG:Stmt:=top 39
theorem GZ:FnScope ["_law_script"] ["_law_script"] (Ai CG):=⟨rfl,rfl,rfl,by decide +kernel,rfl,by decide +kernel,by decide +kernel⟩
theorem G6 {f:Addr} {fd:FuncData} (F:Fun K "_law_whole" "_law_whole" CG f fd) (T:Txt K mg c):FnOk P w K mg base CX0 1 f fd ["_law_script"] (DP K):=by
  refine F.ok GZ (λ vs H Q E h=> ?_) (λ cdv A outer s H vs Q E hr h=> ?_)
  · obtain ⟨a,ns,rfl,_⟩:=h;rfl
  · obtain ⟨a,ns,rfl,sa,hn,k⟩:=h;refine ⟨_,(Ae (An (Am (OL (K:=K)) rfl (T.own _ (by decide)) boot_sum (Aa (EJ (K:=K) (FS (K:=K) rfl (T.own _ (by decide)) (Aa (pv 0) Ab)) (λ _ _ _ _=>AJ) (λ _ _ _ _=>(Al Cf (Al A7 (pv 1) Ag) (Al AC (pv 0) Ag)))) Ab)))),?_⟩;walk_at "w";refine ⟨a,rfl,⟨_,sa⟩,λ D0 hD0=> ?_⟩;refine Bg (G:=λ i=>ns.getD i 0%1000000007*((i:Int)+1)) (JR sa rfl rfl) hD0 (by rw [Aa2];omega) ?_ ?_
    · intro i H' R hi s kk;have b1:=Int.emod_nonneg (ns.getD i 0) (show (1000000007:Int)≠0 by decide);have b2:=Int.emod_lt_of_pos (ns.getD i 0) (show (0:Int)<1000000007 by decide);rw [JD hi];walk_at "w";refine Az (by decide) ?_;walk_at "w";refine Az (.inl ⟨by omega,by omega⟩) ?_;exact kk H' (Same.refl _)
    intro H1 s1 hl1;walk_at "w";refine KC (SqL.of hl1) ?_;exact k _ _ s1
def BS:Sp:=λ vs H Q _=>∃ (a:Addr) (rs:List Nat) (e p:Nat),vs=[.ref a,nV e,nV p]/\H a=some (.lst (rs.map nV))/\p<rs.length/\Q (.bl ((rs.getD p 0).testBit e)) H
abbrev ET:Stmt:=top 40
theorem Kc:FnScope ["_law_rows","_law_end","_law_pick"] ["_law_rows","_law_end","_law_pick"] (Ai ET):=⟨rfl,rfl,rfl,by decide +kernel,rfl,by decide +kernel,by decide +kernel⟩
theorem Kb {f:Addr} {fd:FuncData} (F:Fun K "_law_up" "_law_up" ET f fd) (T:Txt K mg c):FnOk P w K mg base CX0 1 f fd ["_law_rows","_law_end","_law_pick"] BS:=by
  refine F.ok Kc (λ vs H Q E h=> ?_) (λ cdv A outer s H vs Q E hr h=> ?_)
  · obtain ⟨a,rs,e,p,rfl,_⟩:=h;rfl
  · obtain ⟨a,rs,e,p,rfl,ha,hp,k⟩:=h;refine ⟨_,(Ae (An (EA Cz (Al JZ (Al N8 (AX (Dj (K:=K)) (pv 0) (pv 2) (λ _ _=>rfl)) (pv 1)) Ag) Ag (Aw _)))),?_⟩;walk_at "w";refine BK (SqL.of ha) (BL (by omega) (by omega)) ?_;walk_at "w";rw [Ab6];refine Az (by show (0:Int)<=_;omega) ?_;rw [Py];walk_at "w";rw [show (1:Int)=((1:Nat):Int) from rfl,bA,Nat.and_one_is_mod,Nat.shiftRight_eq_div_pow,MM.bit_div];have e2:decide ((((rs.getD p 0).testBit e).toNat:Int)=((1:Nat):Int))=(rs.getD p 0).testBit e:=by
      cases (rs.getD p 0).testBit e <;> rfl
    rw [e2];exact k
def lvF (es:List Nat) (x:Int) (lv e:Nat):Bool:=decide (es.getD e 0<lv)||(decide (es.getD e 0=lv)&&decide (Builtin.bitAnd (x / 2 ^ ((e:Nat):Int).toNat) 1=1))
theorem Fp {H:Hp} {a b:Addr} {o:HO} (h:H a=some o) (g:H b=none):b≠a:=λ z=>by rw [z,h] at g;cases g
structure LvC (rs es ps:List Nat):Prop where
  pl:ps.length=rs.length
  rb:∀ r∈rs,r<2 ^ es.length
  up:∀ p e,p<rs.length->e<es.length->es.getD e 0<ps.getD p 0->(rs.getD p 0).testBit e=true
  dn:∀ p e,p<rs.length->e<es.length->ps.getD p 0<es.getD e 0->(rs.getD p 0).testBit e=false
structure Lev (rs es ps:List Nat):Prop extends LvC rs es ps where
  e1:1<=es.length
  e2:es.length<=24
  p1:1<=rs.length
  p2:rs.length<=60
theorem LH {l:List Nat} {x:Nat} {i:Nat} (h:i<l.length):(l++[x]).getD i 0=l.getD i 0:=by
  rw [Aa0,Ab5 h, <-Aa0]
theorem Lz {l:List Nat} {x:Nat} {i:Nat} (h:i=l.length):(l++[x]).getD i 0=x:=by
  subst h;rw [Aa0,Ag4];rfl
theorem LvC.snoc {rs es ps:List Nat} (c:LvC rs es ps) (x:Int) (lv:Nat):LvC (rs++[MM.ofB (lvF es x lv) es.length]) es (ps++[lv]) where
  pl:=by rw [Ab0,Ab0,c.pl];rfl
  rb:=λ r hr=>by
    rcases Ac4.mp hr with h | h
    · exact c.rb r h
    · rw [Ab7.mp h];exact MM.ofB_lt _ _
  up:=λ p e hp he h=>by
    rw [Ab0,Af3] at hp;by_cases z:p<rs.length
    · rw [LH z];rw [LH (by rw [c.pl];exact z)] at h;exact c.up p e z he h
    · rw [Lz (by omega)];rw [Lz (by rw [c.pl];omega)] at h;rw [MM.ofB_bit,decide_eq_true he];unfold lvF;rw [decide_eq_true h];rfl
  dn:=λ p e hp he h=>by
    rw [Ab0,Af3] at hp;by_cases z:p<rs.length
    · rw [LH z];rw [LH (by rw [c.pl];exact z)] at h;exact c.dn p e z he h
    · rw [Lz (by omega)];rw [Lz (by rw [c.pl];omega)] at h;rw [MM.ofB_bit];unfold lvF;rw [decide_eq_false (show ¬ es.getD e 0<lv by omega),decide_eq_false (show ¬ es.getD e 0=lv by omega)];simp
theorem Bl {B G:Hp} {d:Addr} {o:HO} (s:Same B G) (h:B d=none):Same B (upd G d o):=λ b u e=>by
  rw [Ak (λ z=>by rw [z,h] at e;cases e)];exact s b u e
theorem NO {H:Hp} {d:Addr}:ers H d d=none:=by unfold ers;rw [if_pos rfl]
theorem Qg {H:Hp} {d b:Addr} (h:H b=none):ers H d b=none:=by unfold ers;split;rfl;exact h
def Cv (K:PySem.W.Frag):Sp:=λ vs H Q _=>∃ (a:Addr) (ns:List Int) (W:Int),vs=[.ref a, .int W]/\SqL K H a (ns.map V.int)/\ns.length<=63/\
  ∀ H' t l1 l2 l3 rs es ps,Same H H'->H' t=some (.tup [.ref l1, .ref l2, .ref l3])->H' l1=some (.lst (rs.map nV))->H' l2=some (.lst (es.map nV))->H' l3=some (.lst (ps.map nV))->Lev rs es ps->Q (.ref t) H'
abbrev BC:Stmt:=top 41
theorem sc__law_levelled:FnScope ["_law_script","_law_whole_here","_law_wide","_law_most","_law_k","_law_ends","_law_rows","_law_picks","_law_cell","_law_level","_law_row","_law_end"] ["_law_script","_law_whole_here"] (Ai BC):=⟨rfl,rfl,rfl,by decide +kernel,rfl,by decide +kernel,by decide +kernel⟩
theorem EV {f:Addr} {fd:FuncData} (F:Fun K "_law_levelled" "_law_levelled" BC f fd) (T:Txt K mg c) (c__law_mixed:CallF P w K mg base "_law_mixed" 1 ["_law_cell","_law_k"] Cp):FnOk P w K mg base CX0 2 f fd ["_law_script","_law_whole_here"] (Cv K):=by
  refine F.ok sc__law_levelled (λ vs H Q E h=> ?_) (λ cdv A outer s H vs Q E hr h=> ?_)
  · obtain ⟨a,ns,W,rfl,_⟩:=h;rfl
  · obtain ⟨a,ns,W,rfl,sa,hl,k⟩:=h;refine ⟨_,(Ad (Aq (i:=2) sc__law_levelled.nd rfl (Or.inl rfl) (Al AC Ag (Al A7 (Ah c__law_mixed hr (Aa (pv 1) (Aa Ag Ab))) Ag)))
      (Ad (Aq (i:=3) sc__law_levelled.nd rfl (Or.inr rfl) (Al AC Ag (Al A7 (Ah c__law_mixed hr (Aa (pv 1) (Aa Ag Ab))) Ag)))
      (Ad (Do (i:=5) sc__law_levelled.nd rfl (Or.inl rfl) (AE rfl (T.own _ (by decide)) (Aa (pv 2) Ab)) (λ _ _ _ _=>AJ) (λ _ _ _ _=>(Al A7 (Ah c__law_mixed hr (Aa (pv 2) (Aa (Al AC Ag (pv 0)) Ab))) (pv 1))))
      (Ad (Aq (i:=6) sc__law_levelled.nd rfl (Or.inl rfl) (AY Ab))
      (Ad (Aq (i:=7) sc__law_levelled.nd rfl (Or.inl rfl) (AY Ab))
      (Ad (AQ PassesOwn.never rfl (FS (K:=K) rfl (T.own _ (by decide)) (Aa (Gb (Nv (K:=K)) (Sx (K:=K) (pv 0) (Km (AY (Aa Ag Ab)))) Ip (Ik Ag)) Ab)) (GT (K:=K) rfl (AD (Ar (i:=4) sc__law_levelled.nd rfl (Or.inl rfl)) (AD (Ar (i:=8) sc__law_levelled.nd rfl (Or.inl rfl)) CU))) (Ad (Aq (i:=9) sc__law_levelled.nd rfl (Or.inl rfl) (Al A7 (Al Gs (Ah c__law_mixed hr (Aa (pv 8) (Aa (pv 4) Ab))) Ag) (pv 3)))
      (Ad (Aq (i:=10) sc__law_levelled.nd rfl (Or.inl rfl) Ag)
      (Ad (AQ PassesOwn.never rfl (AE rfl (T.own _ (by decide)) (Aa (pv 2) Ab)) (Ar (i:=11) sc__law_levelled.nd rfl (Or.inl rfl)) (Ae (Bo (PW.pt (EL (As Nh (AX (Dj (K:=K)) (pv 5) (pv 11) (λ _ _=>rfl)) (pv 9) (Aw _)) (Dg (PW.pt (Ga (As Cz (AX (Dj (K:=K)) (pv 5) (pv 11) (λ _ _=>rfl)) (pv 9) (Aw _)) (Eu (As Cz (Al JZ (Al N8 (pv 8) (pv 11)) Ag) Ag (Aw _)))))))) (Ae (Aq (i:=10) sc__law_levelled.nd rfl (Or.inl rfl) (Al AC (pv 10) (Al Eg Ag (pv 11))))) AI)))
      (Ad (A4 (Cr (K:=K) PySem.F.plainAttrs_list PySem.F.slot_list_append PySem.F.type_list_append AG (pv 6) (Aa (pv 10) Ab)))
      (Ae (A4 (Cr (K:=K) PySem.F.plainAttrs_list PySem.F.slot_list_append PySem.F.type_list_append AG (pv 7) (Aa (pv 9) Ab)))))))))
      (Ae (An (A8 (Aa (pv 6) (Aa (pv 5) (Aa (pv 7) Ab)))))))))))),?_⟩
    walk_at "w";refine ⟨W,1,rfl,⟨by decide,by decide⟩,?_⟩;walk_at "w";refine Az (by decide) ?_;walk_at "w";obtain ⟨w0,eW,w2⟩:=Ez W 1 (m:=24) (by decide);rw [show Dm W 1%24=_ from eW,show (1:Int)+((w0:Nat):Int)=((w0+1:Nat):Int) by omega];refine ⟨W,2,rfl,⟨by decide,by decide⟩,?_⟩;walk_at "w";refine Az (by decide) ?_;walk_at "w";obtain ⟨m0,eM,m2⟩:=Ez W 2 (m:=4) (by decide);rw [show Dm W 2%4=_ from eM,show (1:Int)+((m0:Nat):Int)=((m0+1:Nat):Int) by omega];refine ⟨_,rfl,by omega,by omega,λ D hD=> ?_⟩;rw [Ab6];refine Bg (G:=λ i=>(((Dm W (10+((i:Nat):Int))%((m0+1:Nat):Int)).toNat:Nat):Int)) (BU rfl) hD (by omega) ?_ ?_
    · intro i H' R hi s kk;walk_at "w";refine ⟨_,_,rfl,⟨by omega,by omega⟩,?_⟩;walk_at "w";refine Az (by show (0:Int)<_;omega) ?_;have h0:=Int.emod_nonneg (Dm W (10+((i:Nat):Int))) (show ((m0+1:Nat):Int)≠0 by omega);have:=kk H' (Same.refl _);rw [Int.toNat_of_nonneg h0] at this;exact this
    intro H1 s1 g1;rw [Fx] at g1;have le:((Aa5 (w0+1)).map λ i:Nat=>(Dm W (10+((i:Nat):Int))%((m0+1:Nat):Int)).toNat).length=w0+1:=by simp
    generalize ((Aa5 (w0+1)).map λ i:Nat=>(Dm W (10+((i:Nat):Int))%((m0+1:Nat):Int)).toNat)=es at g1 le;walk_at "w";intro q hq;have s2:=Af (o:=HO.lst []) hq;have g2:upd H1 q (HO.lst []) q=_:=Ac;have hq0:H q=none:=s1.free hq;generalize upd H1 q (HO.lst [])=H2 at s2 g2 ⊢;walk_at "w";intro q3 hq3;have s3:=Af (o:=HO.lst []) hq3;have g3:upd H2 q3 (HO.lst []) q3=_:=Ac;have g23:=s3 _ _ g2;have h13:=s3 _ _ (s2 _ _ g1);have s13:=s1.trans (s2.trans s3);have nq:q≠q3:=Ap g2 hq3;have nD:D≠q:=Ap g1 hq;have nD3:D≠q3:=Ap (s2 _ _ g1) hq3;have hq30:H q3=none:=(s1.trans s2).free hq3;generalize upd H2 q3 (HO.lst [])=H3 at s3 g3 g23 s13 h13 ⊢;walk_at "t";walk_at "t";walk_at "t";walk_at "t";walk_at "t";walk_at "t";refine teJ (λ v H'=>∃ (q:Addr) (ts:List Int),v= .ref q/\Same H3 H'/\SqL K H' q (ts.map V.int)/\1<=ts.length/\ts.length<=63) ?_ (λ R key=> ?_);rotate_left
    · walk_at "w";refine Xk (s13.seq sa) ?_;refine Ko (λ hb=> ?_) (λ hb=> ?_)
      · refine key _ _ ⟨a,ns,rfl,Same.refl _,s13.seq sa,?_,hl⟩;cases ns with
        | nil=>simp at hb
        | cons x xs=>simp
      · walk_at "w";intro q hq;exact key _ _ ⟨q,[3],rfl,Af hq,SqL.of Ac,by decide,by decide⟩
    rintro v H4 ⟨q4,ts,rfl,s4,g4,t1,t2⟩;walk_at "w";refine J5 g4 λ p5 hp5=> ?_;rw [SZ (by decide), <-List.map_take];have lc1:1<=(ts.take (60:Int).toNat).length:=by rw [Ag8];omega
    have lc2:(ts.take (60:Int).toNat).length<=60:=by rw [Ag8];omega
    generalize ts.take (60:Int).toNat=cs at lc1 lc2 ⊢;have s5:=Af (o:=HO.lst (cs.map V.int)) hp5;have g5:upd H4 p5 (HO.lst (cs.map V.int)) p5=_:=Ac;have s35:=s4.trans s5;have n5:p5≠q/\p5≠q3:=⟨Fp (s4 _ _ g23) hp5,Fp (s4 _ _ g3) hp5⟩;generalize upd H4 p5 (HO.lst (cs.map V.int))=H5 at s5 g5 s35 ⊢;walk_at "w";have bq:ers (ers H5 q) q3 q=none:=Qg NO;have bq3:ers (ers H5 q) q3 q3=none:=NO;have bB:∀ b o,H5 b=some o->b≠q->b≠q3->ers (ers H5 q) q3 b=some o:=λ b o e n1 n2=>CM (CM e n1) n2;have bS:Same (ers (ers H5 q) q3) H5:=ers_is.trans ers_is;have bD:=bB D _ (s35 _ _ h13) nD nD3;have b5:=bB p5 _ g5 n5.1 n5.2;have bH:Same H (ers (ers H5 q) q3):=λ b o e=>bB b o (s35 _ _ (s13 _ _ e)) (λ z=>by rw [z,hq0] at e;cases e) (λ z=>by rw [z,hq30] at e;cases e);have f5:=s35 _ _ g23;have f53:=s35 _ _ g3;generalize ers (ers H5 q) q3=B at bq bq3 bS bD b5 bH;clear bB;refine ⟨p5,rfl,⟨_,SqL.of g5⟩,AH (H0:=B) (P7 (SqL.of b5)) (λ i σ H6=>∃ u4 u8 u9 u10 u11 rs ps,σ=[some (.ref a),some (.int W),some (nV (w0+1)),some (nV (m0+1)),u4,some (.ref D),some (.ref q),some (.ref q3),u8,u9,u10,u11]/\Same B H6/\H6 q=some (.lst (rs.map nV))/\H6 q3=some (.lst (ps.map nV))/\rs.length=i/\LvC rs es ps) ⟨_,_,_,_,_,[],[],rfl,bS,f5,f53,rfl,⟨rfl,(λ r h=>by cases h),(λ p e h=>by cases h),(λ p e h=>by cases h)⟩⟩ (λ i σ H6 ⟨_,_,_,_,_,_,_,_,z,_⟩=>z) ?_ ?_⟩
    · rintro i σ H6 H7 hi ⟨u4,u8,u9,u10,u11,rs,ps,rfl,z6,z1,z2,z3,lv⟩ s7;rw [Aa2] at hi;rw [JD (by rw [Aa2];exact hi)];generalize cs.getD i 0=x;walk_at "w";refine ⟨x,_,rfl,⟨by omega,by omega⟩,?_⟩;walk_at "w";refine Az ⟨by decide,by decide⟩ ?_;walk_at "w";refine Az (by show (0:Int)<_;omega) ?_;walk_at "w";have b0:=Int.emod_nonneg (Dm x ((i:Nat):Int) / 5) (show ((m0+1:Nat):Int)≠0 by omega);obtain ⟨l,el⟩:∃ l:Nat,Dm x ((i:Nat):Int) / 5%((m0+1:Nat):Int)=(l:Nat):=⟨(Dm x ((i:Nat):Int) / 5%((m0+1:Nat):Int)).toNat,by omega⟩;rw [el];have sB:=z6.trans s7;have gD:=sB _ _ bD;refine ⟨_,rfl,by omega,by omega,?_⟩;rw [Ab6];refine Dz (A1 (n:=w0+1)) (λ e σ H8=>∃ u11,σ=[some (.ref a),some (.int W),some (nV (w0+1)),some (nV (m0+1)),some (.int ((i:Nat):Int)),some (.ref D),some (.ref q),some (.ref q3),some (.int x),some (nV l),some (nV (MM.ofB (lvF es x l) e)),u11]/\Same H7 H8) ⟨_,rfl,Same.refl _⟩ (λ i σ H8 ⟨_,_,z⟩=>z) ?_ ?_
      · rintro e σ H8 H9 he ⟨u11,rfl,s8⟩ s9;have s89:=s8.trans s9;have gD9:=s89 _ _ gD;have finT:lvF es x l e=true->nV (MM.ofB (lvF es x l) (e+1))= .int (((MM.ofB (lvF es x l) e:Nat):Int)+((2 ^ e:Nat):Int)):=λ hb=>by
          rw [QM hb];rfl
        have finF:lvF es x l e=false->nV (MM.ofB (lvF es x l) (e+1))=nV (MM.ofB (lvF es x l) e):=λ hb=>by
          rw [QJ hb]
        generalize MM.ofB (lvF es x l) (e+1)=Z at finT finF ⊢;generalize MM.ofB (lvF es x l) e=Y0 at finT finF ⊢;have hee:e<es.length:=by omega
        walk_at "w";refine BK (SqL.of gD9) (BL (by omega) (by omega)) ?_;walk_at "w";rw [Ab6];unfold lvF at finT finF;by_cases c1:es.getD e 0<l
        · rw [decide_eq_true (by omega)];rw [decide_eq_true c1,Bool.true_or] at finT;refine Gy ?_;walk_at "w";refine Az ⟨by omega,by omega,by decide⟩ ?_;walk_at "w";rw [F8, <-finT rfl];exact ⟨_,rfl,s89⟩
        · rw [decide_eq_false (by omega)];rw [decide_eq_false c1,Bool.false_or] at finT finF;refine Gg ?_;walk_at "w";refine BK (SqL.of gD9) (BL (by omega) (by omega)) ?_;walk_at "w";rw [Ab6];by_cases c2:es.getD e 0=l
          · rw [decide_eq_true (by omega)];rw [decide_eq_true c2,Bool.true_and] at finT finF;refine Gy ?_;walk_at "w";refine Az (by show (0:Int)<=_;omega) ?_;walk_at "w";refine Ko (λ hb2=> ?_) (λ hb2=> ?_)
            · walk_at "w";refine Az ⟨by omega,by omega,by decide⟩ ?_;walk_at "w";rw [F8, <-finT hb2];exact ⟨_,rfl,s89⟩
            · walk_at "w";rw [<-finF hb2];exact ⟨_,rfl,s89⟩
          · rw [decide_eq_false (by omega)];rw [decide_eq_false c2,Ai3] at finF;refine Gg ?_;walk_at "w";rw [<-finF rfl];exact ⟨_,rfl,s89⟩
      · rintro σ H8 ⟨u11,rfl,s8⟩;have g8:=s8 _ _ (s7 _ _ z1);have g83:=s8 _ _ (s7 _ _ z2);have sB8:=sB.trans s8;walk_at "w";refine tyL (SqL.of g8) ?_;walk_at "w";refine BV g8 (by rw [Aa2];omega) ?_;walk_at "w";have g84:upd H8 q (HO.lst (rs.map nV++[nV (MM.ofB (lvF es x l) (w0+1))])) q3=some (.lst (ps.map nV)):=by rw [Ak (Ne.symm nq)];exact g83
        refine tyL (SqL.of g84) ?_;walk_at "w";refine BV g84 (by rw [Aa2,lv.pl];omega) ?_;walk_at "w";refine ⟨_,_,_,_,_,rs++[MM.ofB (lvF es x l) es.length],ps++[l],rfl,Bl (Bl sB8 bq) bq3,?_,?_,?_,lv.snoc x l⟩
        · rw [Ak nq,Ac,Ac5,le];rfl
        · rw [Ac,Ac5];rfl
        · rw [Ab0,z3];rfl
    · rintro σ H6 ⟨u4,u8,u9,u10,u11,rs,ps,rfl,z6,z1,z2,z3,lv⟩;rw [Aa2] at z3;walk_at "w";intro t ht;have sT:=Af (o:=HO.tup [.ref q, .ref D, .ref q3]) ht;exact k _ t q D q3 rs es ps ((bH.trans z6).trans sT) Ac (sT _ _ z1) (sT _ _ (z6 _ _ bD)) (sT _ _ z2) { lv with e1:=by omega,e2:=by omega,p1:=by omega,p2:=by omega }
open MG
theorem KZ {K:PySem.W.Frag} {H:Hp} {a:Addr} {xs:List V} {i1 i2 i3:Nat} {X Y Z:Nat->V} (h:SqL K H a xs) (hp:∀ i,i<xs.length->∃ b,xs.getD i .non= .ref b/\H b=some (.tup [X i,Y i,Z i])):FSrc (Itl K a) (E8 K 3 (A0 (Ax i1) (A0 (Ax i2) (A0 (Ax i3) FC)))) H xs.length (λ i σ=>((σ.set i1 (some (X i))).set i2 (some (Y i))).set i3 (some (Z i))) where
  go:=λ i H' hi s=>⟨xs,xs[i],SqS.same (tp:=false) h s,by simp [hi]⟩
  stop:=λ H' s=>⟨xs,SqS.same (tp:=false) h s,Aa6 _⟩
  yld:=λ i σ H' x H'' R hi s y k=>by
    obtain ⟨e,hv⟩:=y;subst e;have e:x=xs.getD i .non:=by
      rw [Aa0,hv xs (SqS.same (tp:=false) h s)];rfl
    obtain ⟨b,eb,hb⟩:=hp i hi;rw [eb] at e;subst e;exact ⟨b,_,rfl,SqT.of (s _ _ hb),rfl,_,_,rfl,_,_,rfl,_,_,rfl,rfl,k _ (Same.refl _)⟩
theorem OG {K:PySem.W.Frag} {H:Hp} {a:Addr} {xs:List V} {i0 i1 i2 i3:Nat} {X Y Z:Nat->V} (h:SqL K H a xs) (hp:∀ i,i<xs.length->∃ b,xs.getD i .non= .ref b/\H b=some (.tup [X i,Y i,Z i])):FSrc (Ite K a) (E8 K 2 (A0 (Ax i0) (A0 (E8 K 3 (A0 (Ax i1) (A0 (Ax i2) (A0 (Ax i3) FC)))) FC))) H xs.length (λ i σ=>(((σ.set i0 (some (.int i))).set i1 (some (X i))).set i2 (some (Y i))).set i3 (some (Z i))) where
  go:=λ i H' hi s=>⟨xs,xs[i],s.seq h,by simp [hi]⟩
  stop:=λ H' s=>⟨xs,s.seq h,Aa6 _⟩
  yld:=λ i σ H' x H'' R hi s y k=>by
    obtain ⟨p,v,hn,rfl,rfl,hv⟩:=y;have e:v=xs.getD i .non:=by
      rw [Aa0,hv xs (s.seq h)];rfl
    obtain ⟨b,eb,hb⟩:=hp i hi;rw [eb] at e;subst e;have sn:=Af (o:=HO.tup [.int (i:Nat), .ref b]) hn;exact ⟨p,_,rfl,SqT.of Ac,rfl,_,_,rfl,_,_,rfl,b,_,rfl,SqT.of (sn _ _ (s _ _ hb)),rfl,_,_,rfl,_,_,rfl,_,_,rfl,rfl,rfl,k _ sn⟩
def C7:Sp:=λ vs H Q _=>∃ (a:Addr) (xs:List V),vs=[.ref a]/\H a=some (.lst xs)/\xs.length<=100/\∀ p,H p=none->Q (.ref p) (upd H p (.lst (((Aa5 xs.length).map (· + 1)).map nV)))
abbrev B4:Stmt:=top 46
theorem FO:FnScope ["_law_things"] ["_law_things"] (Ai B4):=⟨rfl,rfl,rfl,by decide +kernel,rfl,by decide +kernel,by decide +kernel⟩
theorem FD {f:Addr} {fd:FuncData} (F:Fun K "_law_numbers" "_law_numbers" B4 f fd) (T:Txt K mg c):FnOk P w K mg base CX0 1 f fd ["_law_things"] C7:=by
  refine F.ok FO (λ vs H Q E h=> ?_) (λ cdv A outer s H vs Q E hr h=> ?_)
  · obtain ⟨a,xs,rfl,_⟩:=h;rfl
  · obtain ⟨a,xs,rfl,ha,hl,k⟩:=h;refine ⟨_,(Ae (An (Ee rfl (T.own _ (by decide)) rfl (T.own _ (by decide)) (Aa Ag (Aa (Al AC (Am (Bf (K:=K)) rfl (T.own _ (by decide)) boot_len (Aa (pv 0) Ab)) Ag) Ab))))),?_⟩;walk_at "w";refine AN (SqL.of ha) ?_;walk_at "w";refine ⟨_,_,rfl,⟨by decide,by decide,by omega,by omega⟩,by omega,λ l hl=> ?_⟩;rw [J1];exact k l hl
def BE (ts:List Th):List Th:=(Aj false ts).map (λ k=>((false,k):Th))++(Aj true ts).map (λ k=>((true,k):Th))
def C8:Sp:=λ vs H Q _=>∃ (p l1 l2:Addr) (v3:V) (ts:List Th),vs=[.ref p]/\H p=some (.tup [.ref l1, .ref l2,v3])/\H l1=some (.lst ((Aj false ts).map nV))/\H l2=some (.lst ((Aj true ts).map nV))/\(Aj false ts).length<=60/\(Aj true ts).length<=60/\
  ∀ H' q,Same H H'->Rp H' (FN H) 2 (.ref q) (.lst ((BE ts).map dTh))->Q (.ref q) H'
abbrev BO:Stmt:=top 44
theorem FJ:FnScope ["_law_part_here"] ["_law_part_here"] (Ai BO):=⟨rfl,rfl,rfl,by decide +kernel,rfl,by decide +kernel,by decide +kernel⟩
theorem FK {f:Addr} {fd:FuncData} (F:Fun K "_law_threads" "_law_threads" BO f fd) (T:Txt K mg c):FnOk P w K mg base CX0 1 f fd ["_law_part_here"] C8:=by
  refine F.ok FJ (λ vs H Q E h=> ?_) (λ cdv A outer s H vs Q E hr h=> ?_)
  · obtain ⟨p,l1,l2,v3,ts,rfl,_⟩:=h;rfl
  · obtain ⟨p,l1,l2,v3,ts,rfl,hp,h1,h2,n1,n2,k⟩:=h;refine ⟨_,(Ae (An (Al (Lk (K:=K)) (AK (AZ (K:=K) (AX (BQ (K:=K)) (pv 0) Ag (λ _ _=>rfl))) (λ _ _ _ _=>AJ) (λ _ _ _ _=>(A8 (Aa Fc (Aa (pv 0) Ab))))) (AK (AZ (K:=K) (AX (BQ (K:=K)) (pv 0) Ag (λ _ _=>rfl))) (λ _ _ _ _=>AJ) (λ _ _ _ _=>(A8 (Aa Fc (Aa (pv 0) Ab)))))))),?_⟩;walk_at "w";refine Bd (SqT.of hp) (AT (j:=0) rfl) ?_;walk_at "w";refine ⟨l1,rfl,⟨_,SqL.of h1⟩,λ D hD=> ?_⟩;refine BZ (m:=1) (G:=λ i=>dTh (false,(Aj false ts).getD i 0)) (AM (SqL.of h1) rfl) hD (by rw [Aa2];omega) ?_ ?_
    · intro i H' R hi s kk;rw [AA hi];walk_at "w";intro p hp;exact kk _ _ (Af hp) (B9 Ac (.str _) (.int _))
    intro H1 ys1 s1 g1 r1;rw [Aa2,AL (λ k=>dTh (false,k)) (Aj false ts) 0,show (Aj false ts).map (λ k=>dTh (false,k))=((Aj false ts).map (λ k=>((false,k):Th))).map dTh by rw [Ac8];rfl] at r1;walk_at "w";refine Bd (SqT.of (s1 _ _ hp)) (AT (j:=1) rfl) ?_;walk_at "w";refine ⟨l2,rfl,⟨_,SqL.of (s1 _ _ h2)⟩,λ D2 hD2=> ?_⟩;refine BZ (m:=1) (G:=λ i=>dTh (true,(Aj true ts).getD i 0)) (AM (SqL.of (s1 _ _ h2)) rfl) hD2 (by rw [Aa2];omega) ?_ ?_
    · intro i H' R hi s kk;rw [AA hi];walk_at "w";intro p hp;exact kk _ _ (Af hp) (B9 Ac (.str _) (.int _))
    intro H2 ys2 s2 g2 r2;rw [Aa2,AL (λ k=>dTh (true,k)) (Aj true ts) 0,show (Aj true ts).map (λ k=>dTh (true,k))=((Aj true ts).map (λ k=>((true,k):Th))).map dTh by rw [Ac8];rfl] at r2;obtain ⟨a1,v1,e1,f1,_,t1,_⟩:=Fs (r1.same s2);obtain ⟨a2,v2,e2,f2,_,t2,_⟩:=Fs r2;cases e1;cases e2;have c1:=t1.len;have c2:=t2.len;rw [Aa2] at c1 c2;walk_at "w";refine Iq (SqL.of f1) (SqL.of f2) (by omega) λ q hq=> ?_;have s3:=Af (o:=HO.lst (v1++v2)) hq;refine k _ q (s1.trans (s2.trans s3)) (Ou Ac ((s1.trans s2).free hq) ?_ ((t1.app t2).same s3));unfold BE;rw [Ab0,Aa2,Aa2];omega
def dC:Option (Nat × List Nat)->Dt
  | none=> .non
  | some a=> .tup [dN a.1,dL a.2]
theorem F7 {H:Hp} {F:Addr->Prop} {n:Nat} {a:Addr} {ns:List Nat} (h:H a=some (.lst (ns.map nV))) (f:F a) (b:ns.length<=100000):Rp H F (n+1) (.ref a) (dL ns):=by
  have h':H a=some (.lst ((ns.map λ n=>((n:Nat):Int)).map V.int)):=by rw [Ac8];exact h
  have:=Qa (n:=n) (F:=F) h' f (by rw [Aa2];exact b);unfold LJ at this;rw [Ac8] at this;exact this
theorem KN {H:Hp} {F:Addr->Prop} {n:Nat} {a:Addr} {x y z:V} {d e g:Dt} (h:H a=some (.tup [x,y,z])) (r1:Rp H F n x d) (r2:Rp H F n y e) (r3:Rp H F n z g):Rp H F (n+1) (.ref a) (.tup [d,e,g]):=by
  refine .tup h (by simp) rfl λ i v u h1 h2=> ?_
  match i with
  | 0=>cases h1;cases h2;exact r1
  | 1=>cases h1;cases h2;exact r2
  | 2=>cases h1;cases h2;exact r3
  | i+3=>cases h1
def Jb (rs:List Nat) (ts:List Th):Dt:= .tup [dL (Aj false ts),dL (Aj true ts),dC (Bj rs ts)]
def OH (rs es ps:List Nat):Option (Nat × List Nat):=if es=[]\/ps=[] then none else some (es.length,ps.map (Gv rs es))
theorem LG (rs es:List Nat) (p:Nat):Gv rs es p=MM.ofB (λ i=>(rs.getD (p - 1) 0).testBit (es.getD i 0 - 1)) es.length:=by
  refine MM.eq_ofB (KU _ _ _) λ i hi=> ?_;unfold Gv;rw [MM.mOf_bit,Ae2,List.any_eq_true];constructor
  · rintro ⟨n,hn,e⟩;obtain ⟨j,hj,rfl⟩:=Ab2.mp hn;have:=of_decide_eq_true e;rw [Ae3] at this;subst this;exact (Ac7.mp hj).2
  · intro h;exact ⟨i+1,Ab2.mpr ⟨i,Ac7.mpr ⟨Ac0.mpr hi,h⟩,rfl⟩,decide_eq_true (Ae3 i 1)⟩
theorem LF (f:Nat->Bool):∀ n:Nat,((Aa5 n).map λ i:Nat=>(if f i=true then (1:Int) else 0)*2 ^ ((i:Nat):Int).toNat).sum=((MM.ofB f n:Nat):Int)
  | 0=>rfl
  | n+1=>by
    rw [Ai9,Ac5,List.sum_append,LF f n];show _+((if f n=true then (1:Int) else 0)*2 ^ ((n:Nat):Int).toNat+0)=((MM.ofB f n+(f n).toNat*2 ^ n:Nat):Int);rw [Ab6];cases f n <;> simp
def EB:Sp:=λ vs H Q _=>∃ (a b d:Addr) (rs es ps:List Nat),vs=[.ref a, .ref b, .ref d]/\H a=some (.lst (rs.map nV))/\H b=some (.lst (es.map nV))/\H d=some (.lst (ps.map nV))/\es.length<=60/\ps.length<=60/\(∀ e∈es,1<=e)/\(∀ p∈ps,1<=p/\p<=rs.length)/\
  ∀ H' v,Same H H'->Rp H' FT 2 v (dC (OH rs es ps))->Q v H'
abbrev Dc:Stmt:=top 42
theorem sc__law_part:FnScope ["_law_rows","_law_ends","_law_picks","_law_found","_law_pick"] ["_law_rows","_law_ends","_law_picks"] (Ai Dc):=⟨rfl,rfl,rfl,by decide +kernel,rfl,by decide +kernel,by decide +kernel⟩
theorem Ir {f:Addr} {fd:FuncData} (F:Fun K "_law_part" "_law_part" Dc f fd) (T:Txt K mg c) (c__law_up:CallF P w K mg base "_law_up" 1 ["_law_rows","_law_end","_law_pick"] BS):FnOk P w K mg base CX0 2 f fd ["_law_rows","_law_ends","_law_picks"] EB:=by
  refine F.ok sc__law_part (λ vs H Q E h=> ?_) (λ cdv A outer s H vs Q E hr h=> ?_)
  · obtain ⟨a,b,d,rs,es,ps,rfl,_⟩:=h;rfl
  · obtain ⟨a,b,d,rs,es,ps,rfl,ha,hb,hd,n1,n2,m1,m2,k⟩:=h;have hu:=hr.units0;have nul:∀ H',Same H H'->es=[]\/ps=[]->Q .non H':=λ H' s q=>k H' _ s (by unfold OH;rw [if_pos q];exact .non);refine ⟨_,(Ad (Bo (PW.pt (EL (As (QQ hu (K:=K)) (pv 1) (AY Ab) (Aw _)) (Dg (As (QQ hu (K:=K)) (pv 2) (AY Ab) (Aw _))))) (Ae (An EX)) AI)
      (Ad (Aq (i:=3) sc__law_part.nd rfl (Or.inl rfl) (AY Ab))
      (Ad (AQ PassesOwn.never rfl (AZ (K:=K) (pv 2)) (Ar (i:=4) sc__law_part.nd rfl (Or.inr rfl)) (Ae (A4 (Cr (K:=K) PySem.F.plainAttrs_list PySem.F.slot_list_append PySem.F.type_list_append AG (pv 3) (Aa (Am (OL (K:=K)) rfl (T.own _ (by decide)) boot_sum (Aa (EJ (K:=K) (FS (K:=K) rfl (T.own _ (by decide)) (Aa (pv 1) Ab)) (λ _ _ _ _=>AJ) (λ _ _ _ _=>(Al Eg (Cy Mo rfl (T.own _ (by decide)) boot_int (Aa (Ah c__law_up hr (Aa (pv 3) (Aa (Al CT (pv 1) Ag) (Aa (Al CT (pv 2) Ag) Ab)))) Ab)) (pv 0)))) Ab)) Ab)))))
      (Ae (An (A8 (Aa (Am (Bf (K:=K)) rfl (T.own _ (by decide)) boot_len (Aa (pv 1) Ab)) (Aa (pv 3) Ab)))))))),?_⟩
    walk_at "w";intro p1 hp1;have s1:=Af (o:=HO.lst []) hp1;have g1:upd H p1 (HO.lst []) p1=some (.lst (([]:List Int).map V.int)):=Ac;generalize upd H p1 (HO.lst [])=H1 at s1 g1 ⊢;walk_at "w";refine Le (as:=es.map λ n=>((n:Nat):Int)) (SqL.of (by rw [Ac8];exact s1 _ _ hb)) (SqL.of g1) ?_;walk_at "w";refine IA (λ q=> ?_) (λ q1=> ?_)
    · refine Gy ?_;walk_at "w";exact nul H1 s1 (.inl (List.map_eq_nil_iff.mp q))
    walk_at "w";intro p2 hp2;have s2:=Af (o:=HO.lst []) hp2;have g2:upd H1 p2 (HO.lst []) p2=some (.lst (([]:List Int).map V.int)):=Ac;generalize upd H1 p2 (HO.lst [])=H2 at s2 g2 ⊢;have s12:=s1.trans s2;walk_at "w";refine Le (as:=ps.map λ n=>((n:Nat):Int)) (SqL.of (by rw [Ac8];exact s12 _ _ hd)) (SqL.of g2) ?_;walk_at "w";refine IA (λ q=> ?_) (λ q2=> ?_)
    · walk_at "w";exact nul H2 s12 (.inr (List.map_eq_nil_iff.mp q))
    walk_at "w";intro q hq;have s3:=Af (o:=HO.lst []) hq;have g3:upd H2 q (HO.lst []) q=some (.lst ([].map nV)):=Ac;generalize upd H2 q (HO.lst [])=H3 at s3 g3 ⊢;have s13:=s12.trans s3;have hq0:H q=none:=s12.free hq;walk_at "w";refine ⟨d,rfl,⟨_,SqL.of (s13 _ _ hd)⟩,AH (H0:=H) (B6 (SqL.of hd)) (λ i σ H4=>∃ u,σ=[some (.ref a),some (.ref b),some (.ref d),some (.ref q),u]/\Same H H4/\H4 q=some (.lst (((ps.take i).map (Gv rs es)).map nV))) ⟨_,rfl,s13,g3⟩ (λ i σ H4 ⟨_,_,z,_⟩=>z) ?_ ?_⟩
    · rintro i σ H4 H5 hi ⟨u,rfl,s4,g4⟩ s5;rw [Aa2] at hi;rw [AA (by rw [Aa2];exact hi)];have hm:=m2 _ (L2.getD_mem (y:=0) hi);generalize ep:ps.getD i 0=pk at hm ⊢;have s45:=s4.trans s5;have g5:=s5 _ _ g4;walk_at "w";refine tyL (SqL.of g5) ?_;walk_at "w";refine ⟨b,rfl,⟨_,SqL.of (s45 _ _ hb)⟩,λ D hD=> ?_⟩;refine Bg (G:=λ i=>(if (rs.getD (pk - 1) 0).testBit (es.getD i 0 - 1)=true then (1:Int) else 0)*2 ^ ((i:Nat):Int).toNat) (JR (SqL.of (s45 _ _ hb)) rfl rfl) hD (by rw [Aa2];omega) ?_ ?_
      · intro j H' R hj s kk;rw [Aa2] at hj;rw [AA (by rw [Aa2];exact hj)];have he:=m1 _ (L2.getD_mem (y:=0) hj);generalize es.getD j 0=e at he kk ⊢;walk_at "w";rw [show ((e:Nat):Int) - 1=((e - 1:Nat):Int) by omega,show ((pk:Nat):Int) - 1=((pk - 1:Nat):Int) by omega];refine ⟨a,rs,e - 1,pk - 1,rfl,s _ _ (s45 _ _ ha),by omega,?_⟩;walk_at "w";refine .inr ⟨_,rfl,?_⟩;walk_at "w";refine Az ⟨by omega,by omega,by cases (rs.getD (pk - 1) 0).testBit (e - 1) <;> decide⟩ ?_;exact kk H' (Same.refl _)
      intro H6 s6 g6;rw [Aa2] at g6;walk_at "w";refine KC (SqL.of g6) ?_;rw [LF λ i=>(rs.getD (pk - 1) 0).testBit (es.getD i 0 - 1), <-LG rs es pk];walk_at "w";have g56:=s6 _ _ g5;refine BV g56 (by rw [Aa2,Aa2,Ag8];omega) ?_;walk_at "w";refine ⟨_,rfl,Bl (s45.trans s6) hq0,?_⟩;rw [Ac,List.take_succ_eq_append_getElem hi,Ac5,Ac5];rw [L2.getD_el hi] at ep;rw [ep];rfl
    · rintro σ H4 ⟨u,rfl,s4,g4⟩;rw [Aa2,Af2] at g4;walk_at "w";refine AN (SqL.of (s4 _ _ hb)) ?_;walk_at "w";rw [Aa2];intro t ht;have sT:=Af (o:=HO.tup [nV es.length, .ref q]) ht;refine k _ _ (s4.trans sT) ?_;unfold OH;rw [if_neg (λ z=>z.elim (λ z=>q1 (by rw [z];rfl)) (λ z=>q2 (by rw [z];rfl)))];exact B9 Ac (.int _) (F7 (sT _ _ g4) trivial (by rw [Aa2];omega))
theorem PsL.pick {c:Cs} {F:Addr->Prop} {H:Hp} {ps:List V} {rs:List Nat} {Ls:List (List Th)} (pl:PsL c F H ps rs Ls):∃ f:Nat->Addr × Addr × Addr × V,∀ i,i<Ls.length->ps.getD i .non= .ref (f i).1/\H (f i).1=some (.tup [.ref (f i).2.1, .ref (f i).2.2.1,(f i).2.2.2])/\H (f i).2.1=some (.lst ((Aj false (Ls.getD i [])).map nV))/\H (f i).2.2.1=some (.lst ((Aj true (Ls.getD i [])).map nV))/\ClN c H (f i).2.2.2 (Bj rs (Ls.getD i [])):=by
  have ex:∀ i,∃ z:Addr × Addr × Addr × V,i<Ls.length->ps.getD i .non= .ref z.1/\H z.1=some (.tup [.ref z.2.1, .ref z.2.2.1,z.2.2.2])/\H z.2.1=some (.lst ((Aj false (Ls.getD i [])).map nV))/\H z.2.2.1=some (.lst ((Aj true (Ls.getD i [])).map nV))/\ClN c H z.2.2.2 (Bj rs (Ls.getD i [])):=λ i=>by
    by_cases hi:i<Ls.length
    · obtain ⟨p,l1,l2,v3,e,h1,h2,h3,_,_,h4⟩:=(pl.at_ i hi).at';exact ⟨(p,l1,l2,v3),λ _=>⟨e,h1,h2,h3,h4⟩⟩
    · exact ⟨(0,0,0, .non),λ z=>absurd z hi⟩
  exact ⟨λ i=>(ex i).choose,λ i hi=>(ex i).choose_spec hi⟩
def CB (c:Cs):Sp:=λ vs H Q _=>∃ (a:Addr) (F:Addr->Prop) (ps:List V) (rs:List Nat) (Ls:List (List Th)),vs=[.ref a]/\H a=some (.lst ps)/\PsL c F H ps rs Ls/\Ls.length<=200/\(∀ l∈Ls,(Aj false l).length<=60/\(Aj true l).length<=60)/\
  ∀ H' q ys,Same H H'->H q=none->H' q=some (.lst ys)->ys.length=Ls.length->(∀ i y,ys[i]?=some y->Rp H' FT 3 y (Jb rs (Ls.getD i [])))->Q (.ref q) H'
abbrev Dd:Stmt:=top 43
theorem Iy:FnScope ["_law_parts"] ["_law_parts"] (Ai Dd):=⟨rfl,rfl,rfl,by decide +kernel,rfl,by decide +kernel,by decide +kernel⟩
theorem IE {f:Addr} {fd:FuncData} (F:Fun K "_law_told" "_law_told" Dd f fd) (T:Txt K mg c) (d_Cloth_told:BW P w K mg base c.Cloth "told" 1 ["self"] (DT c)):FnOk P w K mg base CX0 2 f fd ["_law_parts"] (CB c):=by
  refine F.ok Iy (λ vs H Q E h=> ?_) (λ cdv A outer s H vs Q E hr h=> ?_)
  · obtain ⟨a,F,ps,rs,Ls,rfl,_⟩:=h;rfl
  · obtain ⟨a,F,ps,rs,Ls,rfl,ha,pl,n1,n2,k⟩:=h;refine ⟨_,(Ae (An (Ny (K:=K) (AZ (K:=K) (pv 0)) (λ _ _ _ _=>AJ) (λ _ _ _ _=>(A8 (Aa (pv 0) (Aa (pv 1) (Aa (N5 (As Sh (pv 2) EX (Aw _)) EX (DC (pv 2) d_Cloth_told hr)) Ab)))))))),?_⟩;obtain ⟨f,hf⟩:=pl.pick;walk_at "w";refine ⟨a,rfl,⟨_,SqL.of ha⟩,λ D hD=> ?_⟩;refine Dv (Pv:=λ i y H'=>Rp H' (λ a=>a≠D) 3 y (Jb rs (Ls.getD i []))) ((KZ (X:=λ i=> .ref (f i).2.1) (Y:=λ i=> .ref (f i).2.2.1) (Z:=λ i=>(f i).2.2.2) (SqL.of ha) λ i hi=>⟨_,(hf i (pl.len▸hi)).1,(hf i (pl.len▸hi)).2.1⟩).src λ i _=>(((Kp.refl _).set rfl).set rfl).set rfl) hD (by rw [pl.len];omega) (λ i y G1 G2 h s=>h.same s) (λ i y G1 ys o s h hD'=>h.upd (λ _ _ z=>z rfl) (λ xs z=>by rw [hD'] at z;cases z) (λ o z=>by rw [hD'] at z;cases z;exact .inl ⟨_,rfl⟩)) ?_ ?_
    · intro i H' R hi s ⟨ys,hys⟩ kk;rw [pl.len] at hi;obtain ⟨e0,e1,e2,e3,e4⟩:=hf i hi;obtain ⟨b1,b2⟩:=n2 _ (L2.getD_mem (y:=[]) hi);have fin:∀ H3 v3,Same H' H3->Rp H3 (λ a=>a≠D) 2 v3 (dC (Bj rs (Ls.getD i [])))->∀ p,H3 p=none->R (.ref p) (upd H3 p (.tup [.ref (f i).2.1, .ref (f i).2.2.1,v3])):=λ H3 v3 s3 r3 p hp=>by
        have s4:=Af (o:=HO.tup [.ref (f i).2.1, .ref (f i).2.2.1,v3]) hp;have s5:=s.trans (s3.trans s4);exact kk _ _ (s3.trans s4) (KN Ac (F7 (s5 _ _ e2) (Ap e2 hD) (by omega)) (F7 (s5 _ _ e3) (Ap e3 hD) (by omega)) (r3.same s4))
      generalize (f i).2.2.2=v3 at e4 fin ⊢;cases epc:Bj rs (Ls.getD i []) with
      | none=>
        rw [epc] at e4 fin;cases (show v3= .non from e4);walk_at "w";refine ⟨rfl,?_⟩;walk_at "w";rw [decide_eq_true rfl];refine Gy ?_;walk_at "w";exact fin H' .non (Same.refl _) .non
      | some z=>
        rw [epc] at e4 fin;obtain ⟨x,rfl,C0⟩:=e4;obtain ⟨dx,t,h1,h2⟩:=id C0;walk_at "w";refine ⟨rfl,?_⟩;walk_at "w";rw [decide_eq_false (λ q=>by cases q)];refine Gg ?_;walk_at "w";refine ⟨_,_,_,rfl,s _ _ h1,rfl,?_⟩;walk_at "w";refine ⟨x,_,_,rfl,C0.same s,λ H3 p l s3 hp hl gp gl=> ?_⟩;walk_at "w";have nl:l≠D:=λ q=>by rw [q,hys] at hl;cases hl
        have bl:z.2.length<=60:=by
          unfold Bj at epc;split at epc
          · cases epc
          · cases epc;rw [Aa2];exact b2
        exact fin H3 (.ref p) s3 (B9 gp (.int _) (F7 gl nl (by omega)))
    · intro H' ys s hl yl el;exact k H' D ys s hD hl (by rw [yl,pl.len]) λ i y hy=>(el i y hy).any
open MG
theorem O9 {A B:List Th} (ha:∀ t∈A,t.1=false) (hb:∀ t∈B,t.1=true):BE (A++B)=A++B:=by
  have f1:∀ (l:List Th) (b:Bool),(∀ t∈l,t.1=b)->l.filter (λ t=>decide (t.1=b))=l:=λ l b h=>List.filter_eq_self.mpr λ t ht=>decide_eq_true (h t ht);have f2:∀ (l:List Th) (b b':Bool),b'≠b->(∀ t∈l,t.1=b)->l.filter (λ t=>decide (t.1=b'))=[]:=λ l b b' n h=>Aj9.mpr λ t ht z=>n ((of_decide_eq_true z).symm.trans (h t ht));have m:∀ (l:List Th) (b:Bool),(∀ t∈l,t.1=b)->(l.map (·.2)).map (λ k=>((b,k):Th))=l:=λ l b h=>by
    rw [Ac8]
    conv=>rhs;rw [<-List.map_id l]
    exact Af6 λ t ht=>Prod.ext (h t ht).symm rfl
  unfold BE Aj;rw [Ad6,Ad6,f1 A false ha,f2 B true false (by decide) hb,f2 A false true (by decide) ha,f1 B true hb,Ah8,List.nil_append,m A false ha,m B true hb]
theorem RV {n p:Nat} (f:Th->Bool):BE ((Ao n p).filter f)=(Ao n p).filter f:=by
  unfold Ao;rw [Ad6];refine O9 (λ t ht=> ?_) (λ t ht=> ?_)
  · obtain ⟨k,_,rfl⟩:=Ab2.mp (Ac7.mp ht).1;rfl
  · obtain ⟨k,_,rfl⟩:=Ab2.mp (Ac7.mp ht).1;rfl
theorem Io {n:Nat} {rs:List Nat} {Ls:List (List Th)} (st:ML.St (Ao n rs.length) (Bp n rs) Ls [] Ls.flatten) {l:List Th} (hl:l∈Ls):BE l=l:=by
  obtain ⟨t,ht,rfl⟩:=st.lay l hl;exact RV _
def Dq (c:Cs):Sp:=λ vs H Q _=>∃ (a b:Addr) (n:Nat) (F:Addr->Prop) (ps:List V) (rs:List Nat) (Ls:List (List Th)),vs=[.ref a, .ref b]/\H a=some (.lst (rs.map nV))/\H b=some (.lst ps)/\ClOk n rs/\PsL c F H ps rs Ls/\ML.Sq (Ao n rs.length) (Bp n rs) Ls [] Ls.flatten/\∀ H',Same H H'->Q (.bl true) H'
abbrev Cq:Stmt:=top 45
theorem sc__law_parted:FnScope ["_law_rows","_law_parts","_law_place","_law_number","_law_ends","_law_picks","_law_cloth","_law_end","_law_pick","_law_one","_law_other"] ["_law_rows","_law_parts"] (Ai Cq):=⟨rfl,rfl,rfl,by decide +kernel,rfl,by decide +kernel,by decide +kernel⟩
theorem Gz {f:Addr} {fd:FuncData} (F:Fun K "_law_parted" "_law_parted" Cq f fd) (T:Txt K mg c) (c__law_up:CallF P w K mg base "_law_up" 1 ["_law_rows","_law_end","_law_pick"] BS):FnOk P w K mg base CX0 2 f fd ["_law_rows","_law_parts"] (Dq c):=by
  refine F.ok sc__law_parted (λ vs H Q E h=> ?_) (λ cdv A outer s H vs Q E hr h=> ?_)
  · obtain ⟨a,b,n,F,ps,rs,Ls,rfl,_⟩:=h;rfl
  · obtain ⟨a,b,n,F,ps,rs,Ls,rfl,ha,hb,ok,pl,sq,k⟩:=h;have hu1:=hr.units1;have st:=sq.st;have m2:=ok.n2;have q2:=ok.p2;have ndf:=st.ndf;have pmU:=st.perm (B7 n rs) (FZ _ _);have flen:Ls.flatten.length=n+rs.length:=by rw [pmU.length_eq,Ba]
    have lvo:=Tf st;obtain ⟨f,hf⟩:∃ f:Nat->Addr × Addr × Addr × V,∀ i,i<Ls.length->ps.getD i .non= .ref (f i).1/\H (f i).1=some (.tup [.ref (f i).2.1, .ref (f i).2.2.1,(f i).2.2.2])/\H (f i).2.1=some (.lst ((Aj false (Ls.getD i [])).map nV))/\H (f i).2.2.1=some (.lst ((Aj true (Ls.getD i [])).map nV))/\ClN c H (f i).2.2.2 (Bj rs (Ls.getD i [])):=pl.pick;refine ⟨_,(Ad (Aq (i:=2) sc__law_parted.nd rfl (Or.inl rfl) GL)
      (Ad (AQ PassesOwn.never rfl (FS (K:=K) rfl (T.own _ (by decide)) (Aa (pv 1) Ab)) (GT (K:=K) rfl (AD (Ar (i:=3) sc__law_parted.nd rfl (Or.inl rfl)) (AD (GT (K:=K) rfl (AD (Ar (i:=4) sc__law_parted.nd rfl (Or.inl rfl)) (AD (Ar (i:=5) sc__law_parted.nd rfl (Or.inl rfl)) (AD (Ar (i:=6) sc__law_parted.nd rfl (Or.inl rfl)) CU)))) CU))) (Ad (AQ PassesOwn.never rfl (AZ (K:=K) (pv 4)) (Ar (i:=7) sc__law_parted.nd rfl (Or.inl rfl)) (Ae (EK hu1 (pv 2) (A8 (Aa Fc (Aa (pv 7) Ab))) (pv 3) rfl)))
      (Ae (AQ PassesOwn.never rfl (AZ (K:=K) (pv 5)) (Ar (i:=8) sc__law_parted.nd rfl (Or.inl rfl)) (Ae (EK hu1 (pv 2) (A8 (Aa Fc (Aa (pv 8) Ab))) (pv 3) rfl))))))
      (Ad (AQ PassesOwn.never rfl (AE rfl (T.own _ (by decide)) (Aa (Am (Bf (K:=K)) rfl (T.own _ (by decide)) boot_len (Aa (pv 0) Ab)) Ab)) (Ar (i:=8) sc__law_parted.nd rfl (Or.inl rfl)) (Ae (AQ PassesOwn.never rfl (AE rfl (T.own _ (by decide)) (Aa (Al CT (Am LR rfl (T.own _ (by decide)) boot_len (Aa (pv 2) Ab)) (Am (Bf (K:=K)) rfl (T.own _ (by decide)) boot_len (Aa (pv 0) Ab))) Ab)) (Ar (i:=7) sc__law_parted.nd rfl (Or.inl rfl)) (Ad (Aq (i:=9) sc__law_parted.nd rfl (Or.inl rfl) (IN hu1 (pv 2) (A8 (Aa Fc (Aa (Al AC (pv 7) Ag) Ab))) (λ _ _=>rfl)))
      (Ad (Aq (i:=10) sc__law_parted.nd rfl (Or.inl rfl) (IN hu1 (pv 2) (A8 (Aa Fc (Aa (Al AC (pv 8) Ag) Ab))) (λ _ _=>rfl)))
      (Ae (Bo (PW.pt (Ga (As IU (pv 9) (pv 10) (Aw _)) (Eu (As IU (EA Nh (pv 9) (pv 10) (Aw _)) (Ah c__law_up hr (Aa (pv 0) (Aa (pv 7) (Aa (pv 8) Ab)))) (Aw _))))) (Ae (An C3)) AI)))))))
      (Ae (An C3))))),?_⟩
    walk_at "w";intro d hd;walk_at "w";have s8:=Af (o:=HO.dT []) hd;have hd8:upd H d (HO.dT []) d=some (.dT []):=Ac;generalize upd H d (HO.dT [])=H8 at s8 hd8 ⊢;refine ⟨b,rfl,⟨_,SqL.of (s8 _ _ hb)⟩,AH (H0:=H) (OG (X:=λ i=> .ref (f i).2.1) (Y:=λ i=> .ref (f i).2.2.1) (Z:=λ i=>(f i).2.2.2) (SqL.of hb) λ i hi=>⟨_,(hf i (pl.len▸hi)).1,(hf i (pl.len▸hi)).2.1⟩) (λ i σ H3=>∃ (x1 x2 x3 x4 x5 x6:Option V),σ=[some (.ref a),some (.ref b),some (.ref d),x1,x2,x3,x4,x5,x6,none,none]/\Same H H3/\H3 d=some (.dT (((Ls.take i).flatten).map (lvP Ls)))) ⟨_,_,_,_,_,_,rfl,s8,hd8⟩ (λ i σ H3 ⟨_,_,_,_,_,_,_,s,_⟩=>s) ?_ ?_⟩
    · rintro i σ G H9 hi ⟨x1,x2,x3,x4,x5,x6,rfl,s',hd'⟩ s9;have hi':i<Ls.length:=by rw [<-pl.len];exact hi
      have sH:=s'.trans s9;obtain ⟨e0,e1,e2,e3,e4⟩:=hf i hi';have eL:Ls[i]?=some (Ls.getD i []):=by rw [Aa0,Aa1 hi'];rfl
      have eT:=Io st (L2.getD_mem (y:=[]) hi');generalize Ls.getD i []=L at eL eT e2 e3;generalize (f i).2.2.2=v3 at e1 ⊢;generalize (f i).2.2.1=l2 at e1 e3 ⊢;generalize (f i).2.1=l1 at e1 e2 ⊢;have lv:∀ j,j<L.length->ML.lvl Ls (L.getD j (false,0))=i:=λ j hj=>ML.lvl_at ndf eL (L2.getD_mem hj);have dl:∀ j,((Ls.take i).flatten++L.take j).length<=n+rs.length:=λ j=>by
        have h1:((Ls.take (i+1)).flatten).length<=Ls.flatten.length:=by
          have e:Ls.flatten=(Ls.take (i+1)).flatten++(Ls.drop (i+1)).flatten:=by rw [<-List.flatten_append,Af5]
          rw [e,Ab0];omega
        rw [Ic eL,Ab0] at h1;rw [Ab0,Ag8];omega
      have put:∀ (j:Nat) (t:Th) (G:Hp),j<L.length->L.getD j (false,0)=t->G d=some (.dT (((Ls.take i).flatten++L.take j).map (lvP Ls)))->∀ kt,G kt=some (.tup (thV t))->∀ R:Hp->Prop,(∀ G',G'=upd G d (.dT (((Ls.take i).flatten++L.take (j+1)).map (lvP Ls)))->R G')->∃ (x:Addr) (H4:Hp),V.ref d= .ref x/\DPut G x (.ref kt) (nV i) H4/\R H4:=λ j t G hj et gd kt gk R kR=>by
        subst et;have new:=Tb ndf eL hj;refine ⟨d,_,rfl,DPut.t (k:=thK (L.getD j (false,0))) gd gk (Ae8 (show _<=1000 by rw [Aa2];have:=dl j;omega) (by decide)),kR _ ?_⟩;rw [JM _ (by rw [Kr,if_neg new]),DB hj, <-Af1,Ac5 (l₂:=[_])];show upd _ d (.dT (_++[(thK _,nV i)]))=upd _ d (.dT (_++[(thK _,nV (ML.lvl Ls _))]));rw [lv j hj]
      have LE:L.length=(Aj false L).length+(Aj true L).length:=by
        conv=>lhs;rw [<-eT]
        unfold BE;rw [Ab0,Aa2,Aa2]
      have at1:∀ j,j<(Aj false L).length->L.getD j (false,0)=(false,(Aj false L).getD j 0):=λ j hj=>by
        rw [show L.getD j (false,0)=(BE L).getD j (false,0) by rw [eT]];unfold BE;rw [Aa0,Ab5 (by rw [Aa2];exact hj),Aa8,Aa1 hj,L2.getD_el hj];rfl
      have at2:∀ j,j<(Aj true L).length->L.getD ((Aj false L).length+j) (false,0)=(true,(Aj true L).getD j 0):=λ j hj=>by
        rw [show L.getD ((Aj false L).length+j) (false,0)=(BE L).getD ((Aj false L).length+j) (false,0) by rw [eT]];unfold BE;rw [Aa0,Ac6 (by rw [Aa2];omega),Aa2,Nat.add_sub_cancel_left,Aa8,Aa1 hj,L2.getD_el hj];rfl
      walk_at "w";refine ⟨l1,rfl,⟨_,SqL.of (sH _ _ e2)⟩,AH (H0:=H) (B6 (SqL.of e2)) (λ j σ H3=>∃ (x5:Option V),σ=[some (.ref a),some (.ref b),some (.ref d),some (nV i),some (.ref l1),some (.ref l2),some v3,x5,x6,none,none]/\Same H H3/\H3 d=some (.dT (((Ls.take i).flatten++L.take j).map (lvP Ls)))) ⟨_,rfl,sH,by rw [List.take_zero,Ah8];exact s9 _ _ hd'⟩ (λ j σ H3 ⟨_,_,s,_⟩=>s) ?_ ?_⟩
      · rintro j σ G4 H10 hj ⟨y5,rfl,s10',hd10⟩ s10;rw [Aa2] at hj;rw [AA (by rw [Aa2];exact hj)];walk_at "w";row_lines H10 x11;walk_at "w";refine put j _ H11 (by omega) (at1 j hj) (s11 _ _ (s10 _ _ hd10)) p11 g11 _ λ G' eG=> ?_;subst eG;walk_at "w";exact ⟨_,rfl,Bc (s10'.trans (s10.trans s11)) hd,Ac⟩
      · rintro σ H10 ⟨y5,rfl,s10,hd10⟩;rw [Aa2] at hd10;walk_at "w";refine ⟨l2,rfl,⟨_,SqL.of (s10 _ _ e3)⟩,AH (H0:=H) (B6 (SqL.of e3)) (λ j σ H3=>∃ (x6:Option V),σ=[some (.ref a),some (.ref b),some (.ref d),some (nV i),some (.ref l1),some (.ref l2),some v3,y5,x6,none,none]/\Same H H3/\H3 d=some (.dT (((Ls.take i).flatten++L.take ((Aj false L).length+j)).map (lvP Ls)))) ⟨_,rfl,s10,hd10⟩ (λ j σ H3 ⟨_,_,s,_⟩=>s) ?_ ?_⟩
        · rintro j σ G4 H11 hj ⟨y6,rfl,s11',hd11⟩ s11;rw [Aa2] at hj;rw [AA (by rw [Aa2];exact hj)];walk_at "w";row_lines H11 x12;walk_at "w";refine put _ _ H12 (by omega) (at2 j hj) (s12 _ _ (s11 _ _ hd11)) p12 g12 _ λ G' eG=> ?_;subst eG;walk_at "w";exact ⟨_,rfl,Bc (s11'.trans (s11.trans s12)) hd,Ac⟩
        · rintro σ H11 ⟨y6,rfl,s11,hd11⟩;rw [Aa2, <-LE,Af2, <-Ic eL] at hd11;walk_at "w";exact ⟨_,_,_,_,_,_,rfl,s11,hd11⟩
    · rintro σ H9 ⟨x1,x2,x3,x4,x5,x6,rfl,s9,hd9⟩;rw [pl.len,Af2] at hd9;walk_at "w";refine AN (SqL.of (s9 _ _ ha)) ?_;walk_at "w";rw [Aa2];refine ⟨_,rfl,by omega,by omega,?_⟩;rw [Ab6];refine Dz (A1 (n:=rs.length)) (λ j σ H3=>∃ y5 y6 y7 y8,σ=[some (.ref a),some (.ref b),some (.ref d),x1,x2,x3,x4,y5,y6,y7,y8]/\Same H9 H3) ⟨_,_,_,_,rfl,Same.refl _⟩ (λ i σ H3 ⟨_,_,_,_,_,s⟩=>s) ?_ ?_
      · rintro j σ G H10 hj ⟨y5,y6,y7,y8,rfl,s'⟩ s10;have sG:=s'.trans s10;walk_at "w";refine ⟨d,_,rfl,sG _ _ hd9,?_⟩;walk_at "w";refine AN (SqL.of ((s9.trans sG) _ _ ha)) ?_;walk_at "w";rw [Aa2,Aa2,flen,show ((n+rs.length:Nat):Int) - ((rs.length:Nat):Int)=((n:Nat):Int) by omega];refine ⟨_,rfl,by omega,by omega,?_⟩;rw [Ab6];refine AH (H0:=H9) (A1 (n:=n)) (λ i σ H3=>∃ y5 y7 y8,σ=[some (.ref a),some (.ref b),some (.ref d),x1,x2,x3,x4,y5,some (.int (j:Nat)),y7,y8]/\Same H9 H3) ⟨_,_,_,rfl,sG⟩ (λ j σ H3 ⟨_,_,_,_,s⟩=>s) ?_ ?_
        · rintro i σ G4 H11 hi ⟨z5,z7,z8,rfl,s11'⟩ s11;have s9B:=s11'.trans s11;have s0B:=s9.trans s9B;walk_at "w";row_lines H11 x12;walk_at "w";have tE:((false,i+1):Th)∈Ao n rs.length:=mem_allT.mpr ⟨Af9 (Ad3 _),by show i+1<=n;omega⟩;have tP:((true,j+1):Th)∈Ao n rs.length:=mem_allT.mpr ⟨Af9 (Ad3 _),by show j+1<=rs.length;omega⟩;have gE:H12 p12=some (.tup (thV (false,i+1))):=g12;refine ⟨d,nV (ML.lvl Ls (false,i+1)),rfl,lvo.at_ _ tE▸DGet.t (k:=thK (false,i+1)) ((s9B.trans s12) _ _ hd9) gE,?_⟩;walk_at "w";row_lines H12 x13;walk_at "w";have gP:H13 p13=some (.tup (thV (true,j+1))):=g13;have s913:=s9B.trans (s12.trans s13);refine ⟨d,nV (ML.lvl Ls (true,j+1)),rfl,lvo.at_ _ tP▸DGet.t (k:=thK (true,j+1)) (s913 _ _ hd9) gP,?_⟩;walk_at "w";have key:ML.lvl Ls (false,i+1)≠ML.lvl Ls (true,j+1)->(rs.getD j 0).testBit i=decide (((ML.lvl Ls (false,i+1):Nat):Int)<((ML.lvl Ls (true,j+1):Nat):Int)):=λ ne=>by
            cases c:(rs.getD j 0).testBit i with
            | true=>
              have:((false,i+1):Th)∈ovL n rs (true,j+1):=ov_mem.mpr ⟨mem_allT.mp tE,by simp,by simpa using c⟩;have:=lvo.ord _ tP _ tE (.step .here this);symm;rw [decide_eq_true_iff];omega
            | false=>
              have:((true,j+1):Th)∈ovL n rs (false,i+1):=ov_mem.mpr ⟨mem_allT.mp tP,by simp,by simpa using c⟩;have:=lvo.ord _ tE _ tP (.step .here this);symm;rw [decide_eq_false_iff_not];omega
          refine MV (λ ne=> ?_) (λ eq=> ?_)
          · walk_at "w";refine ⟨a,rs,i,j,rfl,(s9.trans s913) _ _ ha,hj,?_⟩;walk_at "w";rw [key (by omega)];refine MV (λ z=>absurd rfl z) (λ _=> ?_);walk_at "w";exact ⟨_,_,_,rfl,s913⟩
          · walk_at "w";exact ⟨_,_,_,rfl,s913⟩
        · rintro σ H11 ⟨z5,z7,z8,rfl,s11⟩;walk_at "w";exact ⟨_,_,_,_,rfl,s11⟩
      · rintro σ H10 ⟨y5,y6,y7,y8,rfl,s10⟩;walk_at "w";exact k H10 (s9.trans s10)
open MG
theorem IY (b:Bool):∀ Ls:List (List Th),Aj b Ls.flatten=(Ls.map (Aj b)).flatten
  | []=>rfl
  | l::Ls=>by
    rw [Aj7,Af0,Aj7, <-IY b Ls];unfold Aj;rw [Ad6,Ac5]
theorem Oe {b:Bool} {l m:List Th} (p:l.Perm m):(Aj b l).Perm (Aj b m):=(p.filter _).map _
def flo (es ps:List Nat) (t:Th):Nat:=if t.1=true then ps.getD (t.2 - 1) 0 else es.getD (t.2 - 1) 0
theorem RT {rs es ps:List Nat} (lv:LvC rs es ps) {t u:Th} (ht:t∈Ao es.length rs.length) (h:u∈ovL es.length rs t):flo es ps u<=flo es ps t:=by
  obtain ⟨⟨u1,u2⟩,ne,bit⟩:=ov_mem.mp h;obtain ⟨t1,t2⟩:=mem_allT.mp ht;obtain ⟨b,k⟩:=t;obtain ⟨c,j⟩:=u;cases b with
  | true=>
    cases c with
    | true=>exact absurd rfl ne
    | false=>
      have bit:(rs.getD (k - 1) 0).testBit (j - 1)=true:=bit;have u2:j<=es.length:=u2;have t2:k<=rs.length:=t2;show es.getD (j - 1) 0<=ps.getD (k - 1) 0;refine Nat.le_of_not_lt λ z=> ?_;have:=lv.dn (k - 1) (j - 1) (by dsimp only at t1;omega) (by dsimp only at u1;omega) z;rw [bit] at this;cases this
  | false=>
    cases c with
    | false=>exact absurd rfl ne
    | true=>
      have bit:(rs.getD (j - 1) 0).testBit (k - 1)=false:=bit;have u2:j<=rs.length:=u2;have t2:k<=es.length:=t2;show ps.getD (j - 1) 0<=es.getD (k - 1) 0;refine Nat.le_of_not_lt λ z=> ?_;have:=lv.up (j - 1) (k - 1) (by dsimp only at u1;omega) (by dsimp only at t1;omega) z;rw [bit] at this;cases this
theorem KO {rs es ps:List Nat} (lv:LvC rs es ps) {t u:Th} (ht:t∈Ao es.length rs.length) (h:Rch (ovL es.length rs) t u):u∈Ao es.length rs.length/\flo es ps u<=flo es ps t:=by
  induction h with
  | here=>exact ⟨ht,Aa6 _⟩
  | step h m ih=>exact ⟨mem_allT.mpr (ov_mem.mp m).1,Ae0 (RT lv ih.1 m) ih.2⟩
theorem OZ {rs es ps:List Nat} (lv:LvC rs es ps) {Ls:List (List Th)} (st:ML.St (Ao es.length rs.length) (Bp es.length rs) Ls [] Ls.flatten) {l:List Th} (hl:l∈Ls) {t u:Th} (ht:t∈l) (hu:u∈l):flo es ps t=flo es ps u:=by
  obtain ⟨x,hx,rfl⟩:=st.lay l hl;obtain ⟨h1,e1⟩:=ML.mem_grp.mp ht;obtain ⟨h2,e2⟩:=ML.mem_grp.mp hu;obtain ⟨r1,r2⟩:=(ML.R_eq (B7 es.length rs) h1 h2).mp (e1.trans e2.symm);exact Nat.le_antisymm (KO lv h2 (rel_iff.mp r2)).2 (KO lv h1 (rel_iff.mp r1)).2
theorem Ph {es ps:List Nat} {l:List Th} (h:BE l=l):(Aj false l).map (λ e=>es.getD (e - 1) 0)++(Aj true l).map (λ p=>ps.getD (p - 1) 0)=l.map (flo es ps):=by
  conv=>rhs;rw [<-h]
  unfold BE;rw [Ac5,Ac8,Ac8];rfl
theorem MC {xs:List Nat} (h:∀ a∈xs,∀ b∈xs,a=b):xs.drop 1=xs.take (xs.length - 1):=by
  refine Ag0 (by rw [Ai5,Ag8];omega) λ i h1 h2=> ?_;exact h _ (List.mem_of_mem_drop (Ad9 h1)) _ (Aj5 (Ad9 h2))
theorem Nm {n p:Nat} {f:Th->Bool} (b:Bool):(Aj b ((Ao n p).filter f)).Pairwise (· <= ·):=by
  have s:=Er (b:=b) (List.filter_sublist (l:=Ao n p) (p:=f));refine List.Pairwise.sublist s ?_;have h:∀ m:Nat,((Aa5 m).map (· + 1)).Pairwise (· <= ·):=λ m=>List.Pairwise.map _ (λ a b (h:a<b)=>by show a+1<=b+1;omega) Ak0;cases b with
  | true=>rw [(EC n p).2];exact h p
  | false=>rw [(EC n p).1];exact h n
theorem Em (ns:List Nat):ns.map nV=(ns.map λ n=>((n:Nat):Int)).map V.int:=by rw [Ac8];rfl
theorem IF {ns:List Nat} (h:ns.Pairwise (· <= ·)):(ns.map λ n=>((n:Nat):Int)).Pairwise (· <= ·):=List.Pairwise.map _ (λ a b h=>by omega) h
theorem K1 {ys:List V} {n:Nat} {g:Nat->Addr} (l:ys.length=n) (h:∀ (i:Nat) (y:V),ys[i]?=some y->y=V.ref (g i)):ys=((Aa5 n).map g).map V.ref:=by
  refine Ag0 (by simpa using l) λ i h1 h2=> ?_;rw [h i _ (Aa1 h1)];simp
theorem LC {n i:Nat} {g:Nat->Addr} (h:i<n):((Aa5 n).map g).getD i 0=g i:=by
  rw [Aa0,Aa8,Ai8 h];rfl
theorem Lf {α:Type} {xs:List (List Th)} {i:Nat} {g:List Th->List α} (h:i<xs.length):(xs.map g).getD i []=g (xs.getD i []):=by
  rw [Aa0,Aa8,Aa1 h,Aa0,Aa1 h];rfl
theorem KM (b:Bool) (Ls:List (List Th)):(Ls.map λ l=>(Aj b l).map nV).flatten=(Aj b Ls.flatten).map nV:=by
  rw [IY,List.map_flatten,Ac8];rfl
theorem Ej {n:Nat} {rs:List Nat} {Ls:List (List Th)} (st:ML.St (Ao n rs.length) (Bp n rs) Ls [] Ls.flatten) (b:Bool):((Aa5 (if b=true then rs.length else n)).map (· + 1)).Perm (Aj b Ls.flatten):=by
  have pm:=Oe (b:=b) (st.perm (B7 n rs) (FZ _ _));cases b with
  | true=>rw [(EC n rs.length).2] at pm;exact pm.symm
  | false=>rw [(EC n rs.length).1] at pm;exact pm.symm
theorem Qq (m:Nat):((Aa5 m).map (· + 1)).Pairwise (· <= ·):=List.Pairwise.map _ (λ a b (h:a<b)=>by show a+1<=b+1;omega) Ak0
theorem Pg {F:Addr->Prop} {H:Hp} {a:Addr} {vs:List V} {Ls:List (List Th)} (h:H a=some (.lst vs)) (b:Ls.length<=100000) (b2:∀ l∈Ls,l.length<=100000) (l:LsL F H vs Ls):Rp H FT 3 (.ref a) (.lst (Ls.map λ l=> .lst (l.map dTh))):=by
  refine .lst h trivial (by rw [l.len];exact b) (by rw [l.len,Aa2]) λ i v d hv hd=> ?_;have hi:i<Ls.length:=by
    have:=(Ab1.mp hv).1;rw [l.len] at this;exact this
  obtain ⟨x,ls,e1,e2,e3,_⟩:=l.at_ i hi;rw [Aa0,hv] at e1;have e1:v= .ref x:=e1;rw [L2.getD_el hi] at e3;rw [Aa8,Aa1 hi] at hd;cases hd;rw [e1];exact Ou e2 trivial (b2 _ (Ad9 hi)) e3
theorem PF {n:Nat} {rs:List Nat} {Ls:List (List Th)} (st:ML.St (Ao n rs.length) (Bp n rs) Ls [] Ls.flatten):(Aa5 Ls.length).map (λ i=>Dt.lst ((BE (Ls.getD i [])).map dTh))=Ls.map λ l=> .lst (l.map dTh):=by
  rw [AL (λ l=>Dt.lst ((BE l).map dTh)) Ls []];exact Af6 λ l hl=>by rw [Io st hl]
theorem LV {H:Hp} {ys:List V} {rs:List Nat} {Ls:List (List Th)} (yl:ys.length=Ls.length) (el:∀ (i:Nat) (y:V),ys[i]?=some y->Rp H FT 3 y (Jb rs (Ls.getD i []))):
    ∃ g:Nat->Addr × Addr × Addr × V,∀ i,i<Ls.length->ys.getD i .non= .ref (g i).1/\H (g i).1=some (.tup [.ref (g i).2.1, .ref (g i).2.2.1,(g i).2.2.2])/\H (g i).2.1=some (.lst ((Aj false (Ls.getD i [])).map nV))/\H (g i).2.2.1=some (.lst ((Aj true (Ls.getD i [])).map nV))/\Rp H FT 2 (g i).2.2.2 (dC (Bj rs (Ls.getD i []))):=by
  have ex:∀ i,∃ z:Addr × Addr × Addr × V,i<Ls.length->ys.getD i .non= .ref z.1/\H z.1=some (.tup [.ref z.2.1, .ref z.2.2.1,z.2.2.2])/\H z.2.1=some (.lst ((Aj false (Ls.getD i [])).map nV))/\H z.2.2.1=some (.lst ((Aj true (Ls.getD i [])).map nV))/\Rp H FT 2 z.2.2.2 (dC (Bj rs (Ls.getD i []))):=λ i=>by
    by_cases hi:i<Ls.length
    · have hi':i<ys.length:=by omega
      obtain ⟨m,a,vs,em,ea,hv,lv,_,ev⟩:=Nb (el i ys[i] (Aa1 hi'));have em:m=2:=by omega
      subst em
      match vs,lv,hv,ev with
      | [v1,v2,v3],_,hv,ev=>
        obtain ⟨l1,rfl,h1,_⟩:=Qy (ev 0 (by show 0<3;decide));obtain ⟨l2,rfl,h2,_⟩:=Qy (ev 1 (by show 1<3;decide));exact ⟨(a,l1,l2,v3),λ _=>⟨by rw [L2.getD_el hi',ea],hv,h1,h2,ev 2 (by show 2<3;decide)⟩⟩
    · exact ⟨(0,0,0, .non),λ z=>absurd z hi⟩
  exact ⟨λ i=>(ex i).choose,λ i hi=>(ex i).choose_spec hi⟩
theorem Nt (xs:List V):GC xs none (some (-1))=xs.take (xs.length - 1):=by
  have e:HT.sIx xs.length xs.length (some (-1))=xs.length - 1:=by
    show (if (-1:Int)<0 then ((-1:Int)+(xs.length:Int)).toNat else min (-1:Int).toNat xs.length)=_;rw [if_pos (by decide)];omega
  unfold GC;rw [e,HT.sIx_none,List.drop_zero,Nat.sub_zero]
theorem Oo (F:Nat->Nat) (l:List Nat):(Aa5 l.length).map (λ i=>F (l.getD i 0))=l.map F:=AL F l 0
def Bz (K:PySem.W.Frag):Sp:=λ vs H Q _=>∃ (a:Addr) (ns:List Int) (W:Int),vs=[.ref a, .int W]/\SqL K H a (ns.map V.int)/\ns.length<=63/\∀ H',Same H H'->Q (.bl true) H'
abbrev A5:Stmt:=top 47
theorem sc__law_levels_right:FnScope ["_law_script","_law_whole_here","_law_rows","_law_ends","_law_picks","_law_cloth","_law_turn","_law_parts","_law_some","_law_others","_law_told_here","_law_floors"] ["_law_script","_law_whole_here"] (Ai A5):=⟨rfl,rfl,rfl,by decide +kernel,rfl,by decide +kernel,by decide +kernel⟩
theorem Dy {f:Addr} {fd:FuncData} (F:Fun K "_law_levels_right" "_law_levels_right" A5 f fd) (T:Txt K mg c) (c__law_levelled:CallF P w K mg base "_law_levelled" 2 ["_law_script","_law_whole_here"] (Cv K)) (m_Cloth:JJ P w K mg base "Cloth" c.Cloth 4 ["self","ends","rows"] (AR c)) (c_taken_apart:CallF P w K mg base "taken_apart" 8 ["cloth"] (BJ c)) (c__law_numbers:CallF P w K mg base "_law_numbers" 1 ["_law_things"] C7) (c__law_parted:CallF P w K mg base "_law_parted" 2 ["_law_rows","_law_parts"] (Dq c)) (c__law_threads:CallF P w K mg base "_law_threads" 1 ["_law_part_here"] C8) (c_layers_of:CallF P w K mg base "layers_of" 7 ["cloth"] (CO c)) (c__law_told:CallF P w K mg base "_law_told" 2 ["_law_parts"] (CB c)) (c__law_part:CallF P w K mg base "_law_part" 2 ["_law_rows","_law_ends","_law_picks"] EB):FnOk P w K mg base CX0 9 f fd ["_law_script","_law_whole_here"] (Bz K):=by
  refine F.ok sc__law_levels_right (λ vs H Q E h=> ?_) (λ cdv A outer s H vs Q E hr h=> ?_)
  · obtain ⟨a,ns,W,rfl,_⟩:=h;rfl
  · obtain ⟨a,ns,W,rfl,sa,hl,k⟩:=h;have hu:=hr.units0;refine ⟨_,(Ad (S5 (Ah c__law_levelled (hr.mono (by decide)) (Aa (pv 0) (Aa (pv 1) Ab))) (GT (K:=K) rfl (AD (Ar (i:=2) sc__law_levels_right.nd rfl (Or.inl rfl)) (AD (Ar (i:=3) sc__law_levels_right.nd rfl (Or.inr rfl)) (AD (Ar (i:=4) sc__law_levels_right.nd rfl (Or.inr rfl)) CU)))))
      (Ad (Aq (i:=5) sc__law_levels_right.nd rfl (Or.inl rfl) (GS m_Cloth (hr.mono (by decide)) (Aa (Am (Bf (K:=K)) rfl (T.own _ (by decide)) boot_len (Aa (pv 3) Ab)) (Aa (pv 2) Ab))))
      (Ad (AQ PassesOwn.never rfl (AE rfl (T.own _ (by decide)) (Aa Ag Ab)) (Ar (i:=6) sc__law_levels_right.nd rfl (Or.inl rfl)) (Ad (Aq (i:=7) sc__law_levels_right.nd rfl (Or.inl rfl) (Ah c_taken_apart hr (Aa (pv 5) Ab)))
      (Ad (Bo (PW.pt (EL (De (Bu (Am (IL (K:=K)) rfl (T.own _ (by decide)) boot_isinstance (Aa (pv 7) (Aa (LP rfl (T.own _ (by decide)) Bt) Ab))))) (Dg (As (GF hu (K:=K)) (Am (DD (K:=K)) rfl (T.own _ (by decide)) Bk (Aa (Am (OD rfl) rfl (T.own _ (by decide)) boot_sum (Aa (AK (AZ (K:=K) (pv 7)) (λ _ _ _ _=>AJ) (λ _ _ _ _=>(AX (BQ (K:=K)) (pv 0) Ag (λ _ _=>rfl)))) (Aa (AY Ab) Ab))) Ab)) (Ah c__law_numbers (hr.mono (by decide)) (Aa (pv 3) Ab)) (Aw _))))) (Ae (An C3)) AI)
      (Ad (Bo (PW.pt (EL (As (GF hu (K:=K)) (Am (DD (K:=K)) rfl (T.own _ (by decide)) Bk (Aa (Am (OD rfl) rfl (T.own _ (by decide)) boot_sum (Aa (AK (AZ (K:=K) (pv 7)) (λ _ _ _ _=>AJ) (λ _ _ _ _=>(AX (BQ (K:=K)) (pv 0) Ag (λ _ _=>rfl)))) (Aa (AY Ab) Ab))) Ab)) (Ah c__law_numbers (hr.mono (by decide)) (Aa (pv 2) Ab)) (Aw _)) (Dg (De (Bu (Ah c__law_parted (hr.mono (by decide)) (Aa (pv 2) (Aa (pv 7) Ab)))))))) (Ae (An C3)) AI)
      (Ad (Bo (As (NI hr.units) (AK (AZ (K:=K) (pv 7)) (λ _ _ _ _=>AJ) (λ _ _ _ _=>(Ah c__law_threads (hr.mono (by decide)) (Aa (pv 0) Ab)))) (Ah c_layers_of (hr.mono (by decide)) (Aa (pv 5) Ab)) (Aw _)) (Ae (An C3)) AI)
      (Ad (AQ PassesOwn.never rfl (AZ (K:=K) (Ah c__law_told (hr.mono (by decide)) (Aa (pv 7) Ab))) (GT (K:=K) rfl (AD (Ar (i:=8) sc__law_levels_right.nd rfl (Or.inl rfl)) (AD (Ar (i:=9) sc__law_levels_right.nd rfl (Or.inl rfl)) (AD (Ar (i:=10) sc__law_levels_right.nd rfl (Or.inl rfl)) CU)))) (Ad (Aq (i:=11) sc__law_levels_right.nd rfl (Or.inl rfl) (Al (Lk (K:=K)) (AK (AZ (K:=K) (pv 8)) (λ _ _ _ _=>AJ) (λ _ _ _ _=>(AX (Dj (K:=K)) (pv 1) (Al CT (pv 0) Ag) (λ _ _=>rfl)))) (AK (AZ (K:=K) (pv 9)) (λ _ _ _ _=>AJ) (λ _ _ _ _=>(AX (Dj (K:=K)) (pv 1) (Al CT (pv 0) Ag) (λ _ _=>rfl))))))
      (Ad (Bo (PW.pt (EL (As (GF hu (K:=K)) (Gb (Nv (K:=K)) (pv 11) (Ik Ag) Ip) (Gb (Nv (K:=K)) (pv 11) Ip (Ik (WJ SD Ag))) (Aw _)) (EL (As (GF hu (K:=K)) (pv 8) (Am (DD (K:=K)) rfl (T.own _ (by decide)) Bk (Aa (pv 8) Ab)) (Aw _)) (Dg (As (GF hu (K:=K)) (pv 9) (Am (DD (K:=K)) rfl (T.own _ (by decide)) Bk (Aa (pv 9) Ab)) (Aw _)))))) (Ae (An C3)) AI)
      (Ae (Bo (As (Mp IU (NI hr.units)) (pv 10) (Ah c__law_part (hr.mono (by decide)) (Aa (pv 2) (Aa (pv 8) (Aa (pv 9) Ab)))) (Aw _)) (Ae (An C3)) AI)))))
      (Ad (A4 (Cr (K:=K) PySem.F.plainAttrs_list PySem.F.slot_list_append PySem.F.type_list_append AG (AX (BQ (K:=K)) (AX (Dj (K:=K)) (pv 7) Ag (λ _ _=>rfl)) Ag (λ _ _=>rfl)) (Aa Ag Ab)))
      (Ae (A4 (Cr (K:=K) PySem.F.plainAttrs_list PySem.F.slot_list_append PySem.F.type_list_append AG (pv 7) (Aa EX Ab)))))))))))
      (Ae (An C3))))),?_⟩
    walk_at "w";refine ⟨a,ns,W,rfl,sa,hl,λ H1 t l1 l2 l3 rs es ps s1 g0 g1 g2 g3 lv=> ?_⟩;walk_at "w";refine Qc (SqT.of g0) rfl ?_;walk_at "w";refine AN (SqL.of g2) ?_;walk_at "w";rw [Aa2];have okC:ClOk es.length rs:=⟨lv.e1,by have:=lv.e2;omega,lv.p1,lv.p2,lv.rb⟩;refine N9 (n:=es.length) g1 okC λ H2 x s2 hx C0=> ?_;walk_at "w";refine ⟨_,rfl,by omega,by omega,?_⟩;have q1:=s2 _ _ g1;have q2:=s2 _ _ g2;have q3:=s2 _ _ g3;refine Dz (A1 (n:=2)) (λ i σ H3=>∃ y1 y2 y3 y4 y5 y6,σ=[some (.ref a),some (.int W),some (.ref l1),some (.ref l2),some (.ref l3),some (.ref x),y1,y2,y3,y4,y5,y6]/\Same H2 H3) ⟨_,_,_,_,_,_,rfl,Same.refl _⟩ (λ i σ H3 ⟨_,_,_,_,_,_,_,s⟩=>s) ?_ ?_
    · rintro i σ G H3 hi ⟨y1,y2,y3,y4,y5,y6,rfl,s'⟩ s3;have s23:=s'.trans s3;have e1:=lv.e1;have e2:=lv.e2;have p1:=lv.p1;have p2:=lv.p2;walk_at "w";refine ⟨x,es.length,rs,rfl,C0.same s23,okC,by omega,λ H4 q pv Ls s4 hq gq pl sq=> ?_⟩;have st:=sq.st;have Ll:=Kl okC sq;obtain ⟨f,hf⟩:=pl.pick;have Lp:0<Ls.length:=by
        rcases Nat.eq_zero_or_pos Ls.length with z | z
        · have:=(Ej st false).length_eq;rw [List.length_eq_zero_iff.mp z] at this;rw [Aa2,Ad7] at this;have:es.length=0:=this;omega
        · exact z
      have sx0:Same H4 H4:=Same.refl _;walk_at "w";refine FX (.lst gq) (Qd (.lst [])) ?_;walk_at "w";refine MY ?_;walk_at "w";refine ⟨q,rfl,⟨_,SqL.of (sx0 _ _ gq)⟩,λ D0 hD0=> ?_⟩;refine Dv (Pv:=λ i y _=>y= .ref (f i).2.1) (AM (SqL.of (sx0 _ _ gq)) rfl) hD0 (by rw [pl.len];omega) (λ i y G1 G2 h s=>h) (λ i y G1 ys o s h hD'=>h) ?_ ?_
      · intro i H' R hi s ⟨ys,hys⟩ kk;rw [pl.len] at hi;rw [(hf i hi).1];walk_at "w";refine Bd (SqT.of ((sx0.trans s) _ _ (hf i hi).2.1)) (AT (j:=0) rfl) ?_;exact kk H' _ (Same.refl _) rfl
      intro Ha0 ys0 sa0 ga0 yl0 el0;rw [K1 (yl0.trans pl.len) el0] at ga0;clear el0 yl0;walk_at "w";intro e0 he0;have sb0:=Af (o:=HO.lst []) he0;have gb0:upd Ha0 e0 (HO.lst []) e0=_:=Ac;generalize upd Ha0 e0 (HO.lst [])=Hb0 at sb0 gb0 ⊢;have sy0:=sx0.trans (sa0.trans sb0);walk_at "w";refine K9 (vss:=Ls.map λ l=>(Aj false l).map nV) (sb0 _ _ ga0) gb0 (by rw [Aa2,Aa2,Ad7]) (by rw [Aa2,Ad7];exact Lp) (λ i hi=> ?_) (by rw [KM,Aa2, <-(Ej st false).length_eq,Aa2,Ad7,sizeLine_eq];simp;omega) λ r0 hr0=> ?_
      · rw [Aa2] at hi;rw [LC hi,Lf hi];exact sy0 _ _ (hf i hi).2.2.1
      rw [KM,Em];have sc0:=Af (o:=HO.lst (((Aj false Ls.flatten).map λ n=>((n:Nat):Int)).map V.int)) hr0;have gc0:upd Hb0 r0 (HO.lst (((Aj false Ls.flatten).map λ n=>((n:Nat):Int)).map V.int)) r0=_:=Ac;generalize upd Hb0 r0 (HO.lst (((Aj false Ls.flatten).map λ n=>((n:Nat):Int)).map V.int))=Hc0 at sc0 gc0 ⊢;walk_at "w";refine Et (SqL.of gc0) (by rw [Aa2, <-(Ej st false).length_eq,Aa2,Ad7];simp;omega) ((Ej st false).map _) (IF (Qq _)) λ u0 hu0=> ?_;have sd0:=Af (o:=HO.lst (((Aa5 (if false=true then rs.length else es.length)).map (· + 1)).map (λ n=>((n:Nat):Int)) |>.map V.int)) hu0;have gd0:upd Hc0 u0 (HO.lst ((((Aa5 (if false=true then rs.length else es.length)).map (· + 1)).map (λ n=>((n:Nat):Int))).map V.int)) u0=_:=Ac;generalize upd Hc0 u0 (HO.lst ((((Aa5 (if false=true then rs.length else es.length)).map (· + 1)).map (λ n=>((n:Nat):Int))).map V.int))=Hd0 at sd0 gd0 ⊢;have sz0:=sy0.trans (sc0.trans sd0);walk_at "w";refine ⟨l2,_,rfl,((s23.trans s4).trans sz0) _ _ q2,by rw [Aa2];omega,λ w0 hw0=> ?_⟩;rw [Aa2,Em];have se0:=Af (o:=HO.lst ((((Aa5 es.length).map (· + 1)).map (λ n=>((n:Nat):Int))).map V.int)) hw0;have ge0:upd Hd0 w0 (HO.lst ((((Aa5 es.length).map (· + 1)).map (λ n=>((n:Nat):Int))).map V.int)) w0=_:=Ac;generalize upd Hd0 w0 (HO.lst ((((Aa5 es.length).map (· + 1)).map (λ n=>((n:Nat):Int))).map V.int))=He0 at se0 ge0 ⊢;have sx1:=sz0.trans se0;walk_at "w";refine CA (SqL.of (se0 _ _ gd0)) (SqL.of ge0) ?_;rw [decide_eq_true (show ((Aa5 (if false=true then rs.length else es.length)).map (· + 1)).map (λ n=>((n:Nat):Int))=((Aa5 es.length).map (· + 1)).map (λ n=>((n:Nat):Int)) from rfl)];walk_at "w";refine ⟨q,rfl,⟨_,SqL.of (sx1 _ _ gq)⟩,λ D1 hD1=> ?_⟩;refine Dv (Pv:=λ i y _=>y= .ref (f i).2.2.1) (AM (SqL.of (sx1 _ _ gq)) rfl) hD1 (by rw [pl.len];omega) (λ i y G1 G2 h s=>h) (λ i y G1 ys o s h hD'=>h) ?_ ?_
      · intro i H' R hi s ⟨ys,hys⟩ kk;rw [pl.len] at hi;rw [(hf i hi).1];walk_at "w";refine Bd (SqT.of ((sx1.trans s) _ _ (hf i hi).2.1)) (AT (j:=1) rfl) ?_;exact kk H' _ (Same.refl _) rfl
      intro Ha1 ys1 sa1 ga1 yl1 el1;rw [K1 (yl1.trans pl.len) el1] at ga1;clear el1 yl1;walk_at "w";intro e1 he1;have sb1:=Af (o:=HO.lst []) he1;have gb1:upd Ha1 e1 (HO.lst []) e1=_:=Ac;generalize upd Ha1 e1 (HO.lst [])=Hb1 at sb1 gb1 ⊢;have sy1:=sx1.trans (sa1.trans sb1);walk_at "w";refine K9 (vss:=Ls.map λ l=>(Aj true l).map nV) (sb1 _ _ ga1) gb1 (by rw [Aa2,Aa2,Ad7]) (by rw [Aa2,Ad7];exact Lp) (λ i hi=> ?_) (by rw [KM,Aa2, <-(Ej st true).length_eq,Aa2,Ad7,sizeLine_eq];simp;omega) λ r1 hr1=> ?_
      · rw [Aa2] at hi;rw [LC hi,Lf hi];exact sy1 _ _ (hf i hi).2.2.2.1
      rw [KM,Em];have sc1:=Af (o:=HO.lst (((Aj true Ls.flatten).map λ n=>((n:Nat):Int)).map V.int)) hr1;have gc1:upd Hb1 r1 (HO.lst (((Aj true Ls.flatten).map λ n=>((n:Nat):Int)).map V.int)) r1=_:=Ac;generalize upd Hb1 r1 (HO.lst (((Aj true Ls.flatten).map λ n=>((n:Nat):Int)).map V.int))=Hc1 at sc1 gc1 ⊢;walk_at "w";refine Et (SqL.of gc1) (by rw [Aa2, <-(Ej st true).length_eq,Aa2,Ad7];simp;omega) ((Ej st true).map _) (IF (Qq _)) λ u1 hu1=> ?_;have sd1:=Af (o:=HO.lst (((Aa5 (if true=true then rs.length else es.length)).map (· + 1)).map (λ n=>((n:Nat):Int)) |>.map V.int)) hu1;have gd1:upd Hc1 u1 (HO.lst ((((Aa5 (if true=true then rs.length else es.length)).map (· + 1)).map (λ n=>((n:Nat):Int))).map V.int)) u1=_:=Ac;generalize upd Hc1 u1 (HO.lst ((((Aa5 (if true=true then rs.length else es.length)).map (· + 1)).map (λ n=>((n:Nat):Int))).map V.int))=Hd1 at sd1 gd1 ⊢;have sz1:=sy1.trans (sc1.trans sd1);walk_at "w";refine ⟨l1,_,rfl,((s23.trans s4).trans sz1) _ _ q1,by rw [Aa2];omega,λ w1 hw1=> ?_⟩;rw [Aa2,Em];have se1:=Af (o:=HO.lst ((((Aa5 rs.length).map (· + 1)).map (λ n=>((n:Nat):Int))).map V.int)) hw1;have ge1:upd Hd1 w1 (HO.lst ((((Aa5 rs.length).map (· + 1)).map (λ n=>((n:Nat):Int))).map V.int)) w1=_:=Ac;generalize upd Hd1 w1 (HO.lst ((((Aa5 rs.length).map (· + 1)).map (λ n=>((n:Nat):Int))).map V.int))=He1 at se1 ge1 ⊢;have sx2:=sz1.trans se1;walk_at "w";refine CA (SqL.of (se1 _ _ gd1)) (SqL.of ge1) ?_;rw [decide_eq_true (show ((Aa5 (if true=true then rs.length else es.length)).map (· + 1)).map (λ n=>((n:Nat):Int))=((Aa5 rs.length).map (· + 1)).map (λ n=>((n:Nat):Int)) from rfl)];walk_at "w";refine ⟨l1,q,es.length,_,pv,rs,Ls,rfl,((s23.trans s4).trans sx2) _ _ q1,sx2 _ _ gq,okC,⟨pl.len,λ i hi=>(pl.at_ i hi).same sx2⟩,sq,λ H5 s5=> ?_⟩;walk_at "w";have sx5:=sx2.trans s5;refine ⟨q,rfl,⟨_,SqL.of (sx5 _ _ gq)⟩,λ D3 hD3=> ?_⟩;refine BZ (m:=2) (G:=λ i=> .lst ((BE (Ls.getD i [])).map dTh)) (AM (SqL.of (sx5 _ _ gq)) rfl) hD3 (by rw [pl.len];omega) ?_ ?_
      · intro i H' R hi s kk;rw [pl.len] at hi;obtain ⟨f0,f1,f2,f3,f4⟩:=hf i hi;obtain ⟨b1,b2,b3,b4,b5⟩:=BF okC sq (L2.getD_mem (y:=[]) hi);have sq5:=sx5.trans s;rw [f0];walk_at "w";exact ⟨_,_,_,_,Ls.getD i [],rfl,sq5 _ _ f1,sq5 _ _ f2,sq5 _ _ f3,b2,b3,λ H3 r s3 rr=>kk H3 _ s3 rr⟩
      intro H6 ys3 s6 g6 r6;rw [pl.len,PF st] at r6;walk_at "w";have s26:=(s23.trans s4).trans (sx5.trans s6);refine ⟨x,es.length,rs,rfl,C0.same s26,okC,by omega,λ H7 q7 rf Ls' s7 hq7 gq7 lsl sq'=> ?_⟩;have eL:Ls'=Ls:=sq'.due.uniq sq.due;subst eL;walk_at "w";refine ⟨3,_,_,by decide,r6.any.same s7,Pg gq7 (by omega) (λ l hl=>by have:=(BF okC sq hl).1;omega) (lsl.same ers_is),rfl,?_⟩;walk_at "w";rw [Cw,if_pos rfl];refine MY ?_;walk_at "w";have sx7:=(sx5.trans s6).trans s7;refine ⟨q,_,pv,rs,Ls',rfl,sx7 _ _ gq,⟨pl.len,λ i hi=>(pl.at_ i hi).same sx7⟩,by omega,(λ l hl=>⟨(BF okC sq hl).2.1,(BF okC sq hl).2.2.1⟩),λ H8 q8 ys8 s8 hq8 gq8 yl8 el8=> ?_⟩;obtain ⟨g,hg⟩:=LV yl8 el8;clear el8;walk_at "w";have s48:=sx7.trans s8;refine ⟨q8,rfl,⟨_,SqL.of gq8⟩,Dz (KZ (X:=λ i=> .ref (g i).2.1) (Y:=λ i=> .ref (g i).2.2.1) (Z:=λ i=>(g i).2.2.2) (SqL.of gq8) λ i hi=>⟨_,(hg i (yl8▸hi)).1,(hg i (yl8▸hi)).2.1⟩) (λ j σ H9=>∃ y3 y4 y5 y6,σ=[some (.ref a),some (.int W),some (.ref l1),some (.ref l2),some (.ref l3),some (.ref x),some (.int (i:Nat)),some (.ref q),y3,y4,y5,y6]/\Same H8 H9) ⟨_,_,_,_,rfl,Same.refl _⟩ (λ i σ H9 ⟨_,_,_,_,_,s⟩=>s) ?_ ?_⟩
      · rintro j σ G9 H9 hj ⟨z3,z4,z5,z6,rfl,s9'⟩ s9;have s89:=s9'.trans s9;rw [yl8] at hj;obtain ⟨e0,e1,e2,e3,e4⟩:=hg j hj;have hL:=L2.getD_mem (y:=[]) hj;generalize Ls'.getD j []=L at e2 e3 e4 hL;generalize (g j).2.2.2=v3 at e1 e4 ⊢;generalize (g j).2.2.1=k2 at e1 e3 ⊢;generalize (g j).2.1=k1 at e1 e2 ⊢;obtain ⟨b1,b2,b3,b4,b5⟩:=BF okC sq hL;have s29:=((s23.trans s4).trans s48).trans s89;have pl3:=lv.pl;have eT:=Io st hL;walk_at "w";refine ⟨k1,rfl,⟨_,SqL.of (s89 _ _ e2)⟩,λ Da hDa=> ?_⟩;refine Bg (G:=λ i=>(((es.getD ((Aj false L).getD i 0 - 1) 0:Nat)):Int)) (AM (SqL.of (s89 _ _ e2)) rfl) hDa (by rw [Aa2];omega) ?_ ?_
        · intro i H' R hi s kk;rw [Aa2] at hi;rw [AA (by rw [Aa2];exact hi)];have hm:=b4 _ (L2.getD_mem (y:=0) hi);generalize (Aj false L).getD i 0=e at hm kk ⊢;walk_at "w";rw [show ((e:Nat):Int) - 1=((e - 1:Nat):Int) by omega];refine BK (SqL.of ((s29.trans s) _ _ q2)) (BL (by omega) (by omega)) ?_;rw [Ab6];exact kk H' (Same.refl _)
        intro Ha sa ga;rw [Aa2,Fx,Oo (λ e=>es.getD (e - 1) 0)] at ga;have sPa:=s89.trans sa;have s29a:=s29.trans sa;walk_at "w";refine ⟨k2,rfl,⟨_,SqL.of (sPa _ _ e3)⟩,λ Db hDb=> ?_⟩;refine Bg (G:=λ i=>(((ps.getD ((Aj true L).getD i 0 - 1) 0:Nat)):Int)) (AM (SqL.of (sPa _ _ e3)) rfl) hDb (by rw [Aa2];omega) ?_ ?_
        · intro i H' R hi s kk;rw [Aa2] at hi;rw [AA (by rw [Aa2];exact hi)];have hm:=b5 _ (L2.getD_mem (y:=0) hi);generalize (Aj true L).getD i 0=e at hm kk ⊢;walk_at "w";rw [show ((e:Nat):Int) - 1=((e - 1:Nat):Int) by omega];refine BK (SqL.of ((s29a.trans s) _ _ q3)) (BL (by omega) (by omega)) ?_;rw [Ab6];exact kk H' (Same.refl _)
        intro Hb sb gb;rw [Aa2,Fx,Oo (λ e=>ps.getD (e - 1) 0)] at gb;have s8b:=sPa.trans sb;have s29b:=s29a.trans sb;walk_at "w";refine Iq (SqL.of (sb _ _ ga)) (SqL.of gb) (by simp;omega) λ fl hfl=> ?_;rw [<-Ac5,Ph eT];have sc:=Af (o:=HO.lst ((L.map (flo es ps)).map nV)) hfl;have gc:upd Hb fl (HO.lst ((L.map (flo es ps)).map nV)) fl=_:=Ac;generalize upd Hb fl (HO.lst ((L.map (flo es ps)).map nV))=Hc at sc gc ⊢;walk_at "w";refine J5 (SqL.of gc) λ c1 hc1=> ?_;rw [OC (by decide)];have sd:=Af (o:=HO.lst (((L.map (flo es ps)).map nV).drop (1:Int).toNat)) hc1;have gd:upd Hc c1 (HO.lst (((L.map (flo es ps)).map nV).drop (1:Int).toNat)) c1=_:=Ac;generalize upd Hc c1 (HO.lst (((L.map (flo es ps)).map nV).drop (1:Int).toNat))=Hd at sd gd ⊢;walk_at "w";refine J5 (SqL.of (sd _ _ gc)) λ c2 hc2=> ?_;rw [Nt];have se:=Af (o:=HO.lst (((L.map (flo es ps)).map nV).take (((L.map (flo es ps)).map nV).length - 1))) hc2;have ge:upd Hd c2 (HO.lst (((L.map (flo es ps)).map nV).take (((L.map (flo es ps)).map nV).length - 1))) c2=_:=Ac;generalize upd Hd c2 (HO.lst (((L.map (flo es ps)).map nV).take (((L.map (flo es ps)).map nV).length - 1)))=He at se ge ⊢;have s8e:=((s8b.trans sc).trans sd).trans se;have s29e:=((s29b.trans sc).trans sd).trans se;have gd':=se _ _ gd;rw [show (1:Int).toNat=1 from rfl, <-List.map_drop,MC (xs:=L.map (flo es ps)) (λ u hu w hw=>by
          obtain ⟨t,ht,rfl⟩:=Ab2.mp hu;obtain ⟨t',ht',rfl⟩:=Ab2.mp hw;exact OZ lv.toLvC st hL ht ht'),Em] at gd'
        rw [<-List.map_take,Aa2 (f:=nV),Em] at ge;walk_at "w";refine CA (SqL.of gd') (SqL.of ge) ?_;rw [decide_eq_true rfl];walk_at "w";obtain ⟨tt,_,eLg⟩:=st.lay L hL;have up1:(Aj false L).Pairwise (· <= ·):=by rw [eLg];exact Nm false
        have up2:(Aj true L).Pairwise (· <= ·):=by rw [eLg];exact Nm true
        have gk1:=s8e _ _ e2;have gk2:=s8e _ _ e3;rw [Em] at gk1 gk2;refine Et (SqL.of gk1) (by rw [Aa2];omega) (.refl _) (IF up1) λ v1 hv1=> ?_;have sf:=Af (o:=HO.lst (((Aj false L).map λ n=>((n:Nat):Int)).map V.int)) hv1;have gf:upd He v1 (HO.lst (((Aj false L).map λ n=>((n:Nat):Int)).map V.int)) v1=_:=Ac;generalize upd He v1 (HO.lst (((Aj false L).map λ n=>((n:Nat):Int)).map V.int))=Hf at sf gf ⊢;walk_at "w";refine CA (SqL.of (sf _ _ gk1)) (SqL.of gf) ?_;rw [decide_eq_true rfl];walk_at "w";refine Et (SqL.of (sf _ _ gk2)) (by rw [Aa2];omega) (.refl _) (IF up2) λ v2 hv2=> ?_;have sg:=Af (o:=HO.lst (((Aj true L).map λ n=>((n:Nat):Int)).map V.int)) hv2;have gg:upd Hf v2 (HO.lst (((Aj true L).map λ n=>((n:Nat):Int)).map V.int)) v2=_:=Ac;generalize upd Hf v2 (HO.lst (((Aj true L).map λ n=>((n:Nat):Int)).map V.int))=Hg at sg gg ⊢;walk_at "w";refine CA (SqL.of ((sf.trans sg) _ _ gk2)) (SqL.of gg) ?_;rw [decide_eq_true rfl];walk_at "w";have s8g:=s8e.trans (sf.trans sg);have s29g:=s29e.trans (sf.trans sg);refine ⟨l1,k1,k2,rs,Aj false L,Aj true L,rfl,s29g _ _ q1,s8g _ _ e2,s8g _ _ e3,b2,b3,(λ e he=>(b4 e he).1),b5,λ Hh vv sh rv=> ?_⟩;have r4:Rp Hh FT 2 v3 (dC (Bj rs L)):=e4.same (s8g.trans sh);have rv:Rp Hh FT 2 vv (dC (Bj rs L)):=rv;walk_at "w";have s8h:=s8g.trans sh;cases epc:Bj rs L with
        | none=>
          rw [epc] at r4 rv;cases r4;cases rv;refine .inl ⟨rfl,?_⟩;rw [decide_eq_true rfl];walk_at "w";exact ⟨_,_,_,_,rfl,s8h⟩
        | some z=>
          rw [epc] at r4 rv;refine .inr ⟨2,_,_,by decide,r4,rv,rfl,?_⟩;rw [Cw,if_pos rfl];walk_at "w";exact ⟨_,_,_,_,rfl,s8h⟩
      · rintro σ H9 ⟨z3,z4,z5,z6,rfl,s9⟩;have s49:=s48.trans s9;obtain ⟨o0,m1,m2,m3,oe,oh,oh1,oh2,of1,of2,_⟩:=(pl.at_ 0 Lp).at';have pe:pv[0]?=some (.ref o0):=by
          have h0:0<pv.length:=by rw [pl.len];exact Lp
          rw [L2.getD_el h0] at oe;rw [Aa1 h0,oe]
        have gm:=s49 _ _ oh1;have g9:=s49 _ _ gq;have b0:=(BF okC sq (L2.getD_mem (y:=[]) Lp)).2.1;walk_at "w";refine BK (SqL.of g9) (AT (j:=0) pe) ?_;walk_at "w";refine Bd (SqT.of (s49 _ _ oh)) (AT (j:=0) rfl) ?_;walk_at "w";refine tyL (SqL.of gm) ?_;walk_at "w";refine BV gm (by rw [Aa2];omega) ?_;walk_at "w";have g10:∀ o,upd H9 m1 o q=some (.lst pv):=λ o=>by rw [Ak (Ne.symm of1.2)];exact g9
        refine tyL (SqL.of (g10 _)) ?_;walk_at "w";refine BV (g10 _) (by rw [pl.len];omega) ?_;walk_at "w";have n2:H2 m1=none:=s23.free of1.1;have n3:H2 q=none:=s23.free hq;exact ⟨_,_,_,_,_,_,rfl,Bl (Bl ((s23.trans s4).trans s49) n2) n3⟩
    · rintro σ H3 ⟨y1,y2,y3,y4,y5,y6,rfl,s3⟩;walk_at "w";exact k H3 (s1.trans (s2.trans s3))
open MG
def Cn (w:Nat) (rs:List Nat) (way:Bool) (t:Th):Prop:=if way=true then Rch (ovL w rs) t (false,1) else Rch (ovL w rs) (false,1) t
structure Ld (w:Nat) (rs:List Nat) (way:Bool) (E P:List Nat):Prop where
  ne:E.Nodup
  np:P.Nodup
  ie:∀ e∈E,e<w/\Cn w rs way (false,e+1)
  ip:∀ p∈P,p<rs.length/\Cn w rs way (true,p+1)
theorem Cn.pick {w:Nat} {rs:List Nat} {way:Bool} {e p:Nat} (he:e<w) (hp:p<rs.length) (c:Cn w rs way (false,e+1)) (h:(rs.getD p 0).testBit e=way):Cn w rs way (true,p+1):=by
  cases way with
  | true=>
    have:((false,e+1):Th)∈ovL w rs (true,p+1):=ov_mem.mpr ⟨⟨Af9 (Ad3 _),he⟩,by simp,by simpa using h⟩;exact (Rch.step .here this).trans c
  | false=>
    have:((true,p+1):Th)∈ovL w rs (false,e+1):=ov_mem.mpr ⟨⟨Af9 (Ad3 _),hp⟩,by simp,by simpa using h⟩;exact Rch.trans c (.step .here this)
theorem Cn.end' {w:Nat} {rs:List Nat} {way:Bool} {e p:Nat} (he:e<w) (hp:p<rs.length) (c:Cn w rs way (true,p+1)) (h:(rs.getD p 0).testBit e≠way):Cn w rs way (false,e+1):=by
  cases way with
  | true=>
    have h:(rs.getD p 0).testBit e=false:=by simpa using h
    have:((true,p+1):Th)∈ovL w rs (false,e+1):=ov_mem.mpr ⟨⟨Af9 (Ad3 _),hp⟩,by simp,by simpa using h⟩;exact (Rch.step .here this).trans c
  | false=>
    have h:(rs.getD p 0).testBit e=true:=by simpa using h
    have:((false,e+1):Th)∈ovL w rs (true,p+1):=ov_mem.mpr ⟨⟨Af9 (Ad3 _),he⟩,by simp,by simpa using h⟩;exact Rch.trans c (.step .here this)
theorem Oq {l:List Nat} {x:Nat} (h:l.Nodup) (n:x∉l):(l++[x]).Nodup:=Ah0.mpr ⟨h,by simp,λ a ha b hb e=>n (by rw [<-Ab7.mp hb, <-e];exact ha)⟩
theorem Ld.pick {w:Nat} {rs:List Nat} {way:Bool} {E P:List Nat} (l:Ld w rs way E P) {e p:Nat} (he:e∈E) (hp:p<rs.length) (h:(rs.getD p 0).testBit e=way) (n:p∉P):Ld w rs way E (P++[p]):=
  ⟨l.ne,Oq l.np n,l.ie,λ q hq=>by
    rcases Ac4.mp hq with z | z
    · exact l.ip q z
    · rw [Ab7.mp z];exact ⟨hp,Cn.pick (l.ie e he).1 hp (l.ie e he).2 h⟩⟩
theorem Ld.end' {w:Nat} {rs:List Nat} {way:Bool} {E P:List Nat} (l:Ld w rs way E P) {e p:Nat} (hp:p∈P) (he:e<w) (h:(rs.getD p 0).testBit e≠way) (n:e∉E):Ld w rs way (E++[e]) P:=
  ⟨Oq l.ne n,l.np,(λ q hq=>by
    rcases Ac4.mp hq with z | z
    · exact l.ie q z
    · rw [Ab7.mp z];exact ⟨he,Cn.end' he (l.ip p hp).1 (l.ip p hp).2 h⟩),l.ip⟩
theorem F9 {l:List Nat} {n:Nat} (h:l.Nodup) (b:∀ x∈l,x<n):l.length<=n:=by
  have:=h.length_le_of_subset (l₂:=Aa5 n) (λ x hx=>Ac0.mpr (b x hx))
  rwa [Ad7] at this
theorem KS {K:PySem.W.Frag} {H:Hp} {Q:VK} {p:Addr} {s:Nat} {ns:List Nat} (c:H p=some (.lst (ns.map nV))) (h:Q (.bl (!decide (s∈ns))) H):rIn K true (nV s) (.ref p) H Q:=by
  obtain ⟨p',xs,e1,e2,e3,e4,e5⟩:rIn K false (nV s) (.ref p) H (λ v _=>v= .bl (decide (s∈ns))):=Ru (tp:=false) (SqL.of c) rfl;cases e1;refine ⟨p,xs,rfl,e2,e3,e4,?_⟩;have e5:V.bl (inV (nV s) xs)= .bl (decide (s∈ns)):=e5;injection e5 with e5;show Q (.bl (!inV (nV s) xs)) H;rw [e5];exact h
def Fq:Sp:=λ vs H Q _=>∃ (w:Nat) (a:Addr) (rs:List Nat) (way:Bool),vs=[nV w, .ref a, .bl way]/\H a=some (.lst (rs.map nV))/\1<=w/\w<=60/\rs.length<=60/\∀ H' E P,Same H H'->Ld w rs way E P->Q (nV (E.length+P.length)) H'
abbrev DW:Stmt:=top 48
theorem sc__law_led:FnScope ["_law_wide","_law_rows","_law_way","_law_ends","_law_picks","_law_turn","_law_pick","_law_end","_law_some"] ["_law_wide","_law_rows","_law_way"] (Ai DW):=⟨rfl,rfl,rfl,by decide +kernel,rfl,by decide +kernel,by decide +kernel⟩
theorem Je {f:Addr} {fd:FuncData} (F:Fun K "_law_led" "_law_led" DW f fd) (T:Txt K mg c) (c__law_up:CallF P w K mg base "_law_up" 1 ["_law_rows","_law_end","_law_pick"] BS):FnOk P w K mg base CX0 2 f fd ["_law_wide","_law_rows","_law_way"] Fq:=by
  refine F.ok sc__law_led (λ vs H Q E h=> ?_) (λ cdv A outer s H vs Q E hr h=> ?_)
  · obtain ⟨w,a,rs,way,rfl,_⟩:=h;rfl
  · obtain ⟨w,a,rs,way,rfl,ha,w1,w2,p2,k⟩:=h;have hu:=hr.units0;refine ⟨_,(Ad (Aq (i:=3) sc__law_led.nd rfl (Or.inl rfl) (AY (Aa Ag Ab)))
      (Ad (Aq (i:=4) sc__law_led.nd rfl (Or.inl rfl) (AY Ab))
      (Ad (AQ PassesOwn.never rfl (AE rfl (T.own _ (by decide)) (Aa (Al AC (pv 0) (Am (Bf (K:=K)) rfl (T.own _ (by decide)) boot_len (Aa (pv 1) Ab))) Ab)) (Ar (i:=5) sc__law_led.nd rfl (Or.inl rfl)) (Ad (AQ PassesOwn.never rfl (AE rfl (T.own _ (by decide)) (Aa (Am (Bf (K:=K)) rfl (T.own _ (by decide)) boot_len (Aa (pv 1) Ab)) Ab)) (Ar (i:=6) sc__law_led.nd rfl (Or.inr rfl)) (Ad (Do (i:=8) sc__law_led.nd rfl (Or.inl rfl) (AZ (K:=K) (pv 3)) (λ _ _ _ _=>(B8 (As Cz (Ah c__law_up hr (Aa (pv 2) (Aa (pv 0) (Aa (pv 1) Ab)))) (pv 3) (Aw _)))) (λ _ _ _ _=>(pv 0)))
      (Ae (Bo (PW.pt (Ga (As (KW (K:=K)) (pv 6) (pv 4) (by with_unfolding_all rfl)) (Eu (As (GF hu (K:=K)) (pv 8) (AY Ab) (Aw _))))) (Ae (A4 (Cr (K:=K) PySem.F.plainAttrs_list PySem.F.slot_list_append PySem.F.type_list_append AG (pv 4) (Aa (pv 6) Ab)))) AI))))
      (Ae (AQ PassesOwn.never rfl (AE rfl (T.own _ (by decide)) (Aa (pv 0) Ab)) (Ar (i:=7) sc__law_led.nd rfl (Or.inr rfl)) (Ad (Do (i:=8) sc__law_led.nd rfl (Or.inl rfl) (AZ (K:=K) (pv 4)) (λ _ _ _ _=>(B8 (As IU (Ah c__law_up hr (Aa (pv 2) (Aa (pv 1) (Aa (pv 0) Ab)))) (pv 3) (Aw _)))) (λ _ _ _ _=>(pv 0)))
      (Ae (Bo (PW.pt (Ga (As (KW (K:=K)) (pv 7) (pv 3) (by with_unfolding_all rfl)) (Eu (As (GF hu (K:=K)) (pv 8) (AY Ab) (Aw _))))) (Ae (A4 (Cr (K:=K) PySem.F.plainAttrs_list PySem.F.slot_list_append PySem.F.type_list_append AG (pv 3) (Aa (pv 7) Ab)))) AI)))))))
      (Ae (An (Al AC (Am (Bf (K:=K)) rfl (T.own _ (by decide)) boot_len (Aa (pv 3) Ab)) (Am (Bf (K:=K)) rfl (T.own _ (by decide)) boot_len (Aa (pv 4) Ab)))))))),?_⟩
    walk_at "w";intro q1 hq1;have s1:=Af (o:=HO.lst [V.int 0]) hq1;have g1:upd H q1 (HO.lst [V.int 0]) q1=some (.lst ([0].map nV)):=Ac;generalize upd H q1 (HO.lst [V.int 0])=H1 at s1 g1 ⊢;walk_at "w";intro q2 hq2;have s2:=Af (o:=HO.lst []) hq2;have g2:upd H1 q2 (HO.lst []) q2=some (.lst (([]:List Nat).map nV)):=Ac;have g12:=s2 _ _ g1;have nq:q1≠q2:=Ap g1 hq2;have hq20:H q2=none:=s1.free hq2;generalize upd H1 q2 (HO.lst [])=H2 at s2 g2 g12 ⊢;have s12:=s1.trans s2;walk_at "w";refine AN (SqL.of (s12 _ _ ha)) ?_;walk_at "w";rw [Aa2,show ((w:Nat):Int)+((rs.length:Nat):Int)=((w+rs.length:Nat):Int) by omega];refine ⟨_,rfl,by omega,by omega,?_⟩;rw [Ab6];have l0:Ld w rs way [0] []:=⟨by simp,List.nodup_nil,(λ e he=>by
      rw [Ab7.mp he];exact ⟨w1,by cases way <;> exact .here⟩),(λ p hp=>by cases hp)⟩
    refine AH (H0:=H) (A1 (n:=w+rs.length)) (λ i σ H3=>∃ y1 y2 y3 y4 E P,σ=[some (nV w),some (.ref a),some (.bl way),some (.ref q1),some (.ref q2),y1,y2,y3,y4]/\Same H H3/\H3 q1=some (.lst (E.map nV))/\H3 q2=some (.lst (P.map nV))/\Ld w rs way E P) ⟨_,_,_,_,[0],[],rfl,s12,g12,g2,l0⟩ (λ i σ H3 ⟨_,_,_,_,_,_,_,s,_⟩=>s) ?_ ?_
    · rintro i σ G H3 hi ⟨y1,y2,y3,y4,E,P,rfl,s',gE',gP',ld⟩ s3;have sH:=s'.trans s3;walk_at "w";refine AN (SqL.of (sH _ _ ha)) ?_;walk_at "w";rw [Aa2];refine ⟨_,rfl,by omega,by omega,?_⟩;rw [Ab6];refine AH (H0:=H) (A1 (n:=rs.length)) (λ p σ H4=>∃ y2 y4 P,σ=[some (nV w),some (.ref a),some (.bl way),some (.ref q1),some (.ref q2),some (.int (i:Nat)),y2,y3,y4]/\Same H H4/\H4 q1=some (.lst (E.map nV))/\H4 q2=some (.lst (P.map nV))/\Ld w rs way E P) ⟨_,_,P,rfl,sH,s3 _ _ gE',s3 _ _ gP',ld⟩ (λ i σ H3 ⟨_,_,_,_,s,_⟩=>s) ?_ ?_
      · rintro p σ G4 H4 hp ⟨y2,y4,P,rfl,s4',gE,gP,ld⟩ s4;have sH:=s4'.trans s4;replace gE:=s4 _ _ gE;replace gP:=s4 _ _ gP;have lE:=F9 ld.ne λ x hx=>(ld.ie x hx).1;have lP:=F9 ld.np λ x hx=>(ld.ip x hx).1;walk_at "w";refine ⟨q1,rfl,⟨_,SqL.of gE⟩,λ D hD=> ?_⟩;refine Be (p:=λ i=>decide ((rs.getD p 0).testBit (E.getD i 0)=way)) (G:=λ i=>((E.getD i 0:Nat):Int)) (AM (SqL.of gE) rfl) hD (by rw [Aa2];omega) ?_ ?_ ?_
        · intro j H' R hj s kk;rw [Aa2] at hj;rw [AA (by rw [Aa2];exact hj)];walk_at "w";refine ⟨a,rs,E.getD j 0,p,rfl,(sH.trans s) _ _ ha,hp,?_⟩;walk_at "w";exact kk H' (Same.refl _)
        · intro j H' R hj hpj s kk;rw [Aa2] at hj;rw [AA (by rw [Aa2];exact hj)];walk_at "w";exact kk H' (Same.refl _)
        intro H5 s5 g5;walk_at "w";have gE5:=s5 _ _ gE;have gP5:=s5 _ _ gP;have sH5:=sH.trans s5;refine KS gP5 ?_;walk_at "w";refine MV (λ np=> ?_) (λ _=> ?_)
        · walk_at "w";intro e he;have s6:=Af (o:=HO.lst []) he;have g6:upd H5 e (HO.lst []) e=some (.lst (([]:List Int).map V.int)):=Ac;generalize upd H5 e (HO.lst [])=H6 at s6 g6 ⊢;walk_at "w";refine CA (SqL.of (s6 _ _ g5)) (SqL.of g6) ?_;walk_at "w";refine MV (λ ne=> ?_) (λ _=> ?_)
          · walk_at "w";refine tyL (SqL.of (s6 _ _ gP5)) ?_;walk_at "w";refine BV (s6 _ _ gP5) (by rw [Aa2];omega) ?_;walk_at "w";obtain ⟨_,hx⟩:=List.exists_mem_of_ne_nil _ ne;obtain ⟨j,hj,_⟩:=Ab2.mp hx;obtain ⟨j1,j2⟩:=Ac7.mp hj;have j1:=Ac0.mp j1;rw [Aa2] at j1;refine ⟨_,_,P++[p],rfl,Bl (sH5.trans s6) hq20,?_,?_,ld.pick (L2.getD_mem (y:=0) j1) hp (of_decide_eq_true j2) np⟩
            · rw [Ak nq];exact s6 _ _ gE5
            · rw [Ac,Ac5];rfl
          · walk_at "w";exact ⟨_,_,P,rfl,sH5.trans s6,s6 _ _ gE5,s6 _ _ gP5,ld⟩
        · walk_at "w";exact ⟨_,_,P,rfl,sH5,gE5,gP5,ld⟩
      · rintro σ H4 ⟨y2,y4,P,rfl,s4,gE,gP,ld⟩;walk_at "w";refine ⟨_,rfl,by omega,by omega,?_⟩;rw [Ab6];refine AH (H0:=H) (A1 (n:=w)) (λ p σ H4=>∃ y3 y4 E,σ=[some (nV w),some (.ref a),some (.bl way),some (.ref q1),some (.ref q2),some (.int (i:Nat)),y2,y3,y4]/\Same H H4/\H4 q1=some (.lst (E.map nV))/\H4 q2=some (.lst (P.map nV))/\Ld w rs way E P) ⟨_,_,E,rfl,s4,gE,gP,ld⟩ (λ i σ H3 ⟨_,_,_,_,s,_⟩=>s) ?_ ?_
        · rintro e σ G5 H5 he ⟨y3,y4,E,rfl,s5',gE,gP,ld⟩ s5;have sH:=s5'.trans s5;replace gE:=s5 _ _ gE;replace gP:=s5 _ _ gP;have lE:=F9 ld.ne λ x hx=>(ld.ie x hx).1;have lP:=F9 ld.np λ x hx=>(ld.ip x hx).1;walk_at "w";refine ⟨q2,rfl,⟨_,SqL.of gP⟩,λ D hD=> ?_⟩;refine Be (p:=λ i=> !decide ((rs.getD (P.getD i 0) 0).testBit e=way)) (G:=λ i=>((P.getD i 0:Nat):Int)) (AM (SqL.of gP) rfl) hD (by rw [Aa2];omega) ?_ ?_ ?_
          · intro j H' R hj s kk;rw [Aa2] at hj;rw [AA (by rw [Aa2];exact hj)];walk_at "w";refine ⟨a,rs,e,P.getD j 0,rfl,(sH.trans s) _ _ ha,(ld.ip _ (L2.getD_mem hj)).1,?_⟩;walk_at "w";exact kk H' (Same.refl _)
          · intro j H' R hj hpj s kk;rw [Aa2] at hj;rw [AA (by rw [Aa2];exact hj)];walk_at "w";exact kk H' (Same.refl _)
          intro H6 s6 g6;walk_at "w";have gE6:=s6 _ _ gE;have gP6:=s6 _ _ gP;have sH6:=sH.trans s6;refine KS gE6 ?_;walk_at "w";refine MV (λ np=> ?_) (λ _=> ?_)
          · walk_at "w";intro d hd;have s7:=Af (o:=HO.lst []) hd;have g7:upd H6 d (HO.lst []) d=some (.lst (([]:List Int).map V.int)):=Ac;generalize upd H6 d (HO.lst [])=H7 at s7 g7 ⊢;walk_at "w";refine CA (SqL.of (s7 _ _ g6)) (SqL.of g7) ?_;walk_at "w";refine MV (λ ne=> ?_) (λ _=> ?_)
            · walk_at "w";refine tyL (SqL.of (s7 _ _ gE6)) ?_;walk_at "w";refine BV (s7 _ _ gE6) (by rw [Aa2];omega) ?_;walk_at "w";obtain ⟨_,hx⟩:=List.exists_mem_of_ne_nil _ ne;obtain ⟨j,hj,_⟩:=Ab2.mp hx;obtain ⟨j1,j2⟩:=Ac7.mp hj;have j1:=Ac0.mp j1;rw [Aa2] at j1;refine ⟨_,_,E++[e],rfl,Bl (sH6.trans s7) hq1,?_,?_,ld.end' (L2.getD_mem (y:=0) j1) he (λ z=>by rw [decide_eq_true z] at j2;cases j2) np⟩
              · rw [Ac,Ac5];rfl
              · rw [Ak (Ne.symm nq)];exact s7 _ _ gP6
            · walk_at "w";exact ⟨_,_,E,rfl,sH6.trans s7,s7 _ _ gE6,s7 _ _ gP6,ld⟩
          · walk_at "w";exact ⟨_,_,E,rfl,sH6,gE6,gP6,ld⟩
        · rintro σ H5 ⟨y3,y4,E,rfl,s5,gE,gP,ld⟩;walk_at "w";exact ⟨_,_,_,_,E,P,rfl,s5,gE,gP,ld⟩
    · rintro σ H3 ⟨y1,y2,y3,y4,E,P,rfl,s3,gE,gP,ld⟩;walk_at "w";refine AN (SqL.of gE) ?_;walk_at "w";refine AN (SqL.of gP) ?_;walk_at "w";rw [Aa2,Aa2,show ((E.length:Nat):Int)+((P.length:Nat):Int)=((E.length+P.length:Nat):Int) by omega];exact k H3 E P s3 ld
def SC (w:Nat) (rs:List Nat):Prop:=∀ t∈Ao w rs.length,∀ u∈Ao w rs.length,Rch (ovL w rs) t u
theorem UV {l:List Nat} {n:Nat} (h:l.Nodup) (b:∀ x∈l,x<n) (e:l.length=n):∀ x,x<n->x∈l:=λ x hx=>by
  refine Classical.byContradiction λ z=> ?_;have:=F9 (Ag2.mpr ⟨z,h⟩) (n:=n) λ y hy=>by
    rcases Ac2.mp hy with q | q
    · rw [q];exact hx
    · exact b y q
  rw [Ad8] at this;omega
theorem Ld.all {w:Nat} {rs:List Nat} {way:Bool} {E P:List Nat} (l:Ld w rs way E P) (h:E.length+P.length=w+rs.length) {t:Th} (ht:t∈Ao w rs.length):Cn w rs way t:=by
  have lE:=F9 l.ne λ x hx=>(l.ie x hx).1;have lP:=F9 l.np λ x hx=>(l.ip x hx).1;obtain ⟨t1,t2⟩:=mem_allT.mp ht;obtain ⟨b,k⟩:=t;have t1:1<=k:=t1;cases b with
  | true=>
    have t2:k<=rs.length:=t2;have:=(l.ip (k - 1) (UV l.np (λ x hx=>(l.ip x hx).1) (by omega) _ (by omega))).2
    rwa [show k - 1+1=k by omega] at this
  | false=>
    have t2:k<=w:=t2;have:=(l.ie (k - 1) (UV l.ne (λ x hx=>(l.ie x hx).1) (by omega) _ (by omega))).2
    rwa [show k - 1+1=k by omega] at this
theorem V1 {w:Nat} {rs:List Nat} {E P E' P':List Nat} (l:Ld w rs true E P) (h:E.length+P.length=w+rs.length) (l':Ld w rs false E' P') (h':E'.length+P'.length=w+rs.length):SC w rs:=λ _ ht _ hu=>Rch.trans (l.all h ht) (l'.all h' hu)
def DU:Sp:=λ vs H Q _=>∃ (w:Nat) (a:Addr) (rs:List Nat),vs=[nV w, .ref a]/\H a=some (.lst (rs.map nV))/\1<=w/\w<=60/\rs.length<=60/\∀ H' b,Same H H'->(b=true->SC w rs)->Q (.bl b) H'
abbrev CN:Stmt:=top 49
theorem Hv:FnScope ["_law_wide","_law_rows"] ["_law_wide","_law_rows"] (Ai CN):=⟨rfl,rfl,rfl,by decide +kernel,rfl,by decide +kernel,by decide +kernel⟩
theorem Ht {f:Addr} {fd:FuncData} (F:Fun K "_law_hangs" "_law_hangs" CN f fd) (T:Txt K mg c) (c__law_led:CallF P w K mg base "_law_led" 2 ["_law_wide","_law_rows","_law_way"] Fq):FnOk P w K mg base CX0 3 f fd ["_law_wide","_law_rows"] DU:=by
  refine F.ok Hv (λ vs H Q E h=> ?_) (λ cdv A outer s H vs Q E hr h=> ?_)
  · obtain ⟨w,a,rs,rfl,_⟩:=h;rfl
  · obtain ⟨w,a,rs,rfl,ha,w1,w2,p2,k⟩:=h;refine ⟨_,(Ae (An (IT Cz Cz (Ah c__law_led hr (Aa (pv 0) (Aa (pv 1) (Aa C3 Ab)))) (Ah c__law_led hr (Aa (pv 0) (Aa (pv 1) (Aa C3 Ab)))) (Al AC (pv 0) (Am (Bf (K:=K)) rfl (T.own _ (by decide)) boot_len (Aa (pv 1) Ab)))))),?_⟩;walk_at "w";refine ⟨w,a,rs,true,rfl,ha,w1,w2,p2,λ H1 E P s1 l1=> ?_⟩;walk_at "w";refine ⟨w,a,rs,false,rfl,s1 _ _ ha,w1,w2,p2,λ H2 E' P' s2 l2=> ?_⟩;walk_at "w";have s12:=s1.trans s2;refine IA (λ e1=> ?_) (λ _=> ?_)
    · walk_at "w";refine AN (SqL.of (s12 _ _ ha)) ?_;walk_at "w";rw [Aa2];refine k H2 _ s12 λ z=>V1 l1 ?_ l2 ?_
      all_goals
        have z:=of_decide_eq_true z
        first | omega | (injection z with z;omega)
    · exact k H2 false s12 λ z=>by cases z
open MG
def chk (w k p:Nat):Nat:=MM.ofB (λ e=>decide ((e+p+k)%2=0)) w
def DI (w h k:Nat):List Nat:=(Aa5 h).map (chk w k)
theorem K3 {w h k p:Nat} (hp:p<h):(DI w h k).getD p 0=chk w k p:=by
  unfold DI;rw [Aa0,Aa8,Ai8 hp];rfl
theorem KH {w k p e:Nat} (he:e<w):(chk w k p).testBit e=decide ((e+p+k)%2=0):=by
  unfold chk;rw [MM.ofB_bit,decide_eq_true he,Bool.true_and]
theorem Es {w h k:Nat}:(DI w h k).length=h:=by simp [DI]
section
variable {w h k:Nat}
theorem ck1 {e p:Nat} (he:e<w) (hp:p<h) (c:(e+p+k)%2=0):Rch (ovL w (DI w h k)) (true,p+1) (false,e+1):=
  .step .here (ov_mem.mpr ⟨⟨Af9 (Ad3 _),he⟩,by simp,by
    show ((DI w h k).getD (p+1 - 1) 0).testBit (e+1 - 1)=true;rw [Ae3,Ae3,K3 hp,KH he,decide_eq_true c]⟩)
theorem ck2 {e p:Nat} (he:e<w) (hp:p<h) (c:(e+p+k)%2≠0):Rch (ovL w (DI w h k)) (false,e+1) (true,p+1):=
  .step .here (ov_mem.mpr ⟨⟨Af9 (Ad3 _),by rw [if_pos rfl,Es];exact hp⟩,by simp,by
    show ((DI w h k).getD (p+1 - 1) 0).testBit (e+1 - 1)=false;rw [Ae3,Ae3,K3 hp,KH he,decide_eq_false c]⟩)
theorem ck3 (w2:2<=w) {p q:Nat} (hp:p<h) (hq:q<h) (c:(p+q)%2≠0):Rch (ovL w (DI w h k)) (true,p+1) (true,q+1):=
  (ck1 (e:=(p+k)%2) (by omega) hp (by omega)).trans (ck2 (by omega) hq (by omega))
theorem ck4 (w2:2<=w) (h2:2<=h) {p q:Nat} (hp:p<h) (hq:q<h):Rch (ovL w (DI w h k)) (true,p+1) (true,q+1):=by
  by_cases c:(p+q)%2=0
  · exact (ck3 w2 hp (q:=(p+1)%2) (by omega) (by omega)).trans (ck3 w2 (by omega) hq (by omega))
  · exact ck3 w2 hp hq c
theorem ck5 (w2:2<=w) (h2:2<=h) {p:Nat} (hp:p<h) {u:Th} (hu:u∈Ao w (DI w h k).length):Rch (ovL w (DI w h k)) (true,p+1) u:=by
  obtain ⟨u1,u2⟩:=mem_allT.mp hu;obtain ⟨b,j⟩:=u;have u1:1<=j:=u1;have ej:j=j - 1+1:=by omega
  cases b with
  | true=>
    have u2:j<=(DI w h k).length:=u2;rw [Es] at u2;rw [ej];exact ck4 w2 h2 hp (by omega)
  | false=>
    have u2:j<=w:=u2;rw [ej];exact (ck4 w2 h2 hp (q:=(j - 1+k)%2) (by omega)).trans (ck1 (by omega) (by omega) (by omega))
theorem PH (w2:2<=w) (h2:2<=h):SC w (DI w h k):=λ t ht u hu=>by
  obtain ⟨t1,t2⟩:=mem_allT.mp ht;obtain ⟨b,j⟩:=t;have t1:1<=j:=t1;have ej:j=j - 1+1:=by omega
  cases b with
  | true=>
    have t2:j<=(DI w h k).length:=t2;rw [Es] at t2;rw [ej];exact ck5 w2 h2 (by omega) hu
  | false=>
    have t2:j<=w:=t2;rw [ej];exact (ck2 (p:=(j - 1+k+1)%2) (by omega) (by omega) (by omega)).trans (ck5 w2 h2 (by omega) hu)
end
theorem HV (f:Nat->Bool):∀ n:Nat,(((Aa5 n).filter f).map λ e:Nat=>(1:Int)*2 ^ ((e:Nat):Int).toNat).sum=((MM.ofB f n:Nat):Int)
  | 0=>rfl
  | n+1=>by
    rw [Ai9,Ad6,Ac5,List.sum_append,HV f n];show _=((MM.ofB f n+(f n).toNat*2 ^ n:Nat):Int);cases e:f n <;> simp [Ae4,e]
def C5 (K:PySem.W.Frag):Sp:=λ vs H Q _=>∃ (a:Addr) (ns:List Int) (W:Int) (kk w h:Nat),vs=[.ref a, .int W,nV kk,nV w,nV h]/\SqL K H a (ns.map V.int)/\ns.length<=63/\2<=w/\w<=6/\2<=h/\h<=6/\kk<4/\∀ H' l rs,Same H H'->H l=none->H' l=some (.lst (rs.map nV))->rs.length=h->(∀ r∈rs,r<2 ^ w)->SC w rs->Q (.ref l) H'
abbrev BR:Stmt:=top 50
theorem sc__law_hanging:FnScope ["_law_script","_law_whole_here","_law_k","_law_wide","_law_high","_law_rows"] ["_law_script","_law_whole_here","_law_k","_law_wide","_law_high"] (Ai BR):=⟨rfl,rfl,rfl,by decide +kernel,rfl,by decide +kernel,by decide +kernel⟩
theorem FM {f:Addr} {fd:FuncData} (F:Fun K "_law_hanging" "_law_hanging" BR f fd) (T:Txt K mg c) (c__law_hangs:CallF P w K mg base "_law_hangs" 3 ["_law_wide","_law_rows"] DU):FnOk P w K mg base CX0 4 f fd ["_law_script","_law_whole_here","_law_k","_law_wide","_law_high"] (C5 K):=by
  refine F.ok sc__law_hanging (λ vs H Q E h=> ?_) (λ cdv A outer s H vs Q E hr h=> ?_)
  · obtain ⟨a,ns,W,kk,w,h,rfl,_⟩:=h;rfl
  · obtain ⟨a,ns,W,k0,w,h,rfl,sa,hl,w1,w2,h1,h2,k2,k⟩:=h;refine ⟨_,(Ad (Do (i:=5) sc__law_hanging.nd rfl (Or.inl rfl) (AE rfl (T.own _ (by decide)) (Aa (pv 4) Ab)) (λ _ _ _ _=>AJ) (λ _ _ _ _=>(Al A7 (AX (Dj (K:=K)) (Al (Lk (K:=K)) (pv 3) (Al SG (AY (Aa Ag Ab)) Ag)) (Al AC (Al Cf (pv 2) (pv 1)) (pv 0)) (λ _ _=>rfl)) (Al Eg Ag (pv 4)))))
      (Ad (Bo (Bu (Ah c__law_hangs hr (Aa (pv 3) (Aa (pv 5) Ab)))) (Ae (An (pv 5))) AI)
      (Ae (An (L9 (AE rfl (T.own _ (by decide)) (Aa (pv 4) Ab)) (λ _ _ _ _=>AJ) (λ _ _ _ _=>(Am (OL (K:=K)) rfl (T.own _ (by decide)) boot_sum (Aa (LS (fr:=[("_law_k",1),("_law_turn",0)]) (AE rfl (T.own _ (by decide)) (Aa (pv 2) Ab)) (λ _ _ _ _=>(B8 (As Cz (Al A7 (Al AC (Al AC (pv 0) (pv 2)) (pv 1)) Ag) Ag (Aw _)))) (λ _ _ _ _=>(Al Eg Ag (pv 0)))) Ab)))))))),?_⟩
    walk_at "w";refine ⟨_,rfl,by omega,by omega,λ D hD=> ?_⟩;rw [Ab6];have kh:k0*h<=18:=Nat.mul_le_mul (show k0<=3 by omega) h2;refine Bg (G:=λ i=>((((ns++Ad5 30 (2:Int)).getD (k0*h+i) 0%((2 ^ w:Nat):Int)).toNat:Nat):Int)) (BU rfl) hD (by omega) ?_ ?_
    · intro i H' R hi s kk;walk_at "w";intro l1 hl1;have s2:=Af (o:=HO.lst [V.int 2]) hl1;have g1:upd H' l1 (HO.lst [V.int 2]) l1=_:=Ac;generalize upd H' l1 (HO.lst [V.int 2])=H2 at s2 g1 ⊢;walk_at "w";refine So g1 (by omega) (by omega) (by simp) λ l2 hl2=> ?_;rw [show (Ad5 (30:Int).toNat [V.int 2]).flatten=(Ad5 30 (2:Int)).map V.int from rfl];have s3:=Af (o:=HO.lst ((Ad5 30 (2:Int)).map V.int)) hl2;have g2:upd H2 l2 (HO.lst ((Ad5 30 (2:Int)).map V.int)) l2=_:=Ac;generalize upd H2 l2 (HO.lst ((Ad5 30 (2:Int)).map V.int))=H3 at s3 g2 ⊢;have s13:=s.trans (s2.trans s3);walk_at "w";refine Iq (s13.seq sa) (SqL.of g2) (by simp;omega) λ l3 hl3=> ?_;rw [<-Ac5];have s4:=Af (o:=HO.lst ((ns++Ad5 30 (2:Int)).map V.int)) hl3;have g3:upd H3 l3 (HO.lst ((ns++Ad5 30 (2:Int)).map V.int)) l3=_:=Ac;generalize upd H3 l3 (HO.lst ((ns++Ad5 30 (2:Int)).map V.int))=H4 at s4 g3 ⊢;walk_at "w";refine Az (.inl ⟨by omega,by omega⟩) ?_;rw [show ((k0:Nat):Int)*((h:Nat):Int)=((k0*h:Nat):Int) by push_cast;rfl];walk_at "w";rw [show ((k0*h:Nat):Int)+((i:Nat):Int)=((k0*h+i:Nat):Int) by omega];refine BK (SqL.of g3) (OT (by omega) (by simp;omega)) ?_;rw [Ab6];walk_at "w";refine Az ⟨by omega,by omega,by decide⟩ ?_;walk_at "w";refine Az (Q7 _) ?_;rw [Rq];exact kk H4 (s2.trans (s3.trans s4))
    intro H1 s1 g1;rw [Fx] at g1;have lr:((Aa5 h).map λ i:Nat=>((ns++Ad5 30 (2:Int)).getD (k0*h+i) 0%((2 ^ w:Nat):Int)).toNat).length=h:=by simp
    have br:∀ r∈(Aa5 h).map λ i:Nat=>((ns++Ad5 30 (2:Int)).getD (k0*h+i) 0%((2 ^ w:Nat):Int)).toNat,r<2 ^ w:=λ r hr=>by
      obtain ⟨i,_,rfl⟩:=Ab2.mp hr;exact UQ _ _
    generalize (Aa5 h).map (λ i:Nat=>((ns++Ad5 30 (2:Int)).getD (k0*h+i) 0%((2 ^ w:Nat):Int)).toNat)=rs at g1 lr br;walk_at "w";refine ⟨w,D,rs,rfl,g1,by omega,by omega,by omega,λ H2 b s2 sc=> ?_⟩;walk_at "w";refine Ko (λ hb=> ?_) (λ hb=> ?_)
    · walk_at "w";exact k H2 D rs (s1.trans s2) hD (s2 _ _ g1) lr br (sc hb)
    · walk_at "w";refine ⟨_,rfl,by omega,by omega,λ D2 hD2=> ?_⟩;rw [Ab6];refine Bg (G:=λ i=>((chk w k0 i:Nat):Int)) (BU rfl) hD2 (by omega) ?_ ?_
      · intro i H' R hi s kk;walk_at "w";refine ⟨_,rfl,by omega,by omega,λ D3 hD3=> ?_⟩;rw [Ab6];refine Be (p:=λ e=>decide ((e+i+k0)%2=0)) (G:=λ e=>(1:Int)*2 ^ ((e:Nat):Int).toNat) (BU rfl) hD3 (by omega) ?_ ?_ ?_
        · intro e H3 R3 he s3 kk3;walk_at "w";refine Az (by decide) ?_;walk_at "w";have ed:decide ((((e:Nat):Int)+((i:Nat):Int)+((k0:Nat):Int))%2=0)=decide ((e+i+k0)%2=0):=decide_eq_decide.mpr (by omega);rw [ed];exact kk3 H3 (Same.refl _)
        · intro e H3 R3 he hp s3 kk3;walk_at "w";refine Az ⟨by omega,by omega,by decide⟩ ?_;exact kk3 H3 (Same.refl _)
        intro H3 s3 g3;walk_at "w";refine KC (SqL.of g3) ?_;rw [HV];exact kk H3 s3
      intro H3 s3 g3;rw [Fx] at g3;exact k H3 D2 (DI w h k0) (s1.trans (s2.trans s3)) ((s1.trans s2).free hD2) g3 Es (λ r hr=>by
        obtain ⟨i,_,rfl⟩:=Ab2.mp hr;exact MM.ofB_lt _ _) (PH w1 h1)
open MG
theorem O0 {U:List Th} {rel:Th->Th->Bool} {Ls:List (List Th)} {told:List Th} (p:ML.Pre U rel) (st:ML.St U rel Ls [] told) {own:Th->Nat} {m:Nat} (ho:∀ t∈U,own t<m) (hs:∀ k,k<m->∃ t∈U,own t=k) (hr:∀ t∈U,∀ u∈U,(rel t u=true↔own u<=own t)):
    Ls=(Aa5 m).map λ k=>U.filter λ t=>decide (own t=k):=by
  have eq:∀ t∈U,∀ u∈U,(ML.lvl Ls t=ML.lvl Ls u↔own t=own u):=λ t ht u hu=>by
    rw [st.lvl_eq p ht hu,hr t ht u hu,hr u hu t ht];omega
  have ord:∀ t∈U,∀ u∈U,own u<=own t->ML.lvl Ls u<=ML.lvl Ls t:=λ t ht u hu h=>st.lvl_ord ht hu ((hr t ht u hu).mpr h);have lt:∀ t∈U,ML.lvl Ls t<Ls.length:=λ t ht=>by
    obtain ⟨i,l,h1,h2⟩:=st.all_in ht;rw [ML.lvl_at st.ndf h1 h2];exact (Ab1.mp h1).1
  have wit:∀ i,i<Ls.length->∃ s∈U,ML.lvl Ls s=i:=λ i hi=>by
    obtain ⟨s,h1,h2⟩:=st.ne p (Aa1 hi);exact ⟨s,h1,ML.lvl_at st.ndf (Aa1 hi) h2⟩
  have key:∀ k,∀ t∈U,own t=k->ML.lvl Ls t=k:=λ k=>by
    induction k using Nat.strongRecOn with
    | _ k ih=>
      intro t ht e;have hk:=ho t ht;rcases Nat.lt_trichotomy (ML.lvl Ls t) k with z | z | z
      · obtain ⟨s,h1,h2⟩:=hs (ML.lvl Ls t) (by omega);have h3:=ih _ z s h1 h2;have:=(eq s h1 t ht).mp h3;omega
      · exact z
      · obtain ⟨s,h1,h2⟩:=wit k (by have:=lt t ht;omega);rcases Nat.lt_trichotomy (own s) k with y | y | y
        · have:=ih _ y s h1 rfl;omega
        · have:=(eq s h1 t ht).mpr (by omega);omega
        · have:=ord s h1 t ht (by omega);omega
  have len:Ls.length=m:=by
    rcases Nat.lt_trichotomy Ls.length m with z | z | z
    · obtain ⟨t,h1,h2⟩:=hs Ls.length z;have:=key _ t h1 h2;have:=lt t h1;omega
    · exact z
    · obtain ⟨s,h1,h2⟩:=wit m z;have:=key _ s h1 rfl;have:=ho s h1;omega
  refine Ag0 (by rw [Aa2,Ad7,len]) λ i h1 h2=> ?_;rw [List.getElem_map,List.getElem_range];obtain ⟨t,ht,htl⟩:=st.ne p (Aa1 h1);obtain ⟨_,e⟩:=st.grp_of p (Aa1 h1) htl;have lt':=ML.lvl_at st.ndf (Aa1 h1) htl;have ot:own t=i:=by rw [<-lt'];exact (key _ t ht rfl).symm
  rw [e];unfold ML.grp;refine Ai2 λ u hu=> ?_;rw [decide_eq_decide,ML.R_eq p hu ht, <-st.lvl_eq p hu ht,eq u hu t ht,ot]
def wvB (cs:List (List Nat)) (m p e:Nat):Bool:=decide (e%m<p%m)||(decide (e%m=p%m)&&((cs.getD (p%m) []).getD (p / m) 0).testBit (e / m))
def wvR (cs:List (List Nat)) (m w p:Nat):Nat:=MM.ofB (wvB cs m p) (w*m)
def wvs (cs:List (List Nat)) (m w h:Nat):List Nat:=(Aa5 (h*m)).map (wvR cs m w)
structure Wv (cs:List (List Nat)) (m w h:Nat):Prop where
  m1:1<=m
  w1:1<=w
  h1:1<=h
  cl:∀ k,k<m->(cs.getD k []).length=h
  sc:∀ k,k<m->SC w (cs.getD k [])
  bd:∀ k,k<m->∀ r∈cs.getD k [],r<2 ^ w
section
variable {cs:List (List Nat)} {m w h:Nat}
theorem Bw:(wvs cs m w h).length=h*m:=by simp [wvs]
theorem GD {p e:Nat} (hp:p<h*m) (he:e<w*m):((wvs cs m w h).getD p 0).testBit e=wvB cs m p e:=by
  unfold wvs;rw [Aa0,Aa8,Ai8 hp];show (wvR cs m w p).testBit e=_;unfold wvR;rw [MM.ofB_bit,decide_eq_true he,Bool.true_and]
def own (m:Nat) (t:Th):Nat:=(t.2 - 1)%m
theorem SF {t u:Th} (ht:t∈Ao (w*m) (wvs cs m w h).length) (hu:u∈ovL (w*m) (wvs cs m w h) t):own m u<=own m t:=by
  obtain ⟨⟨u1,u2⟩,ne,bit⟩:=ov_mem.mp hu;obtain ⟨t1,t2⟩:=mem_allT.mp ht;rw [Bw] at u2 t2;obtain ⟨b,k⟩:=t;obtain ⟨c,j⟩:=u;have u1:1<=j:=u1;have t1:1<=k:=t1;unfold own;cases b with
  | true=>
    cases c with
    | true=>exact absurd rfl ne
    | false=>
      have bit:((wvs cs m w h).getD (k - 1) 0).testBit (j - 1)=true:=bit;have u2:j<=w*m:=u2;have t2:k<=h*m:=t2;rw [GD (by omega) (by omega)] at bit;refine Nat.le_of_not_lt λ z=> ?_;have z:(k - 1)%m<(j - 1)%m:=z;unfold wvB at bit;rw [decide_eq_false (show ¬ (j - 1)%m<(k - 1)%m by omega),decide_eq_false (show ¬ (j - 1)%m=(k - 1)%m by omega)] at bit;cases bit
  | false=>
    cases c with
    | false=>exact absurd rfl ne
    | true=>
      have bit:((wvs cs m w h).getD (j - 1) 0).testBit (k - 1)=false:=bit;have u2:j<=h*m:=u2;have t2:k<=w*m:=t2;rw [GD (by omega) (by omega)] at bit;refine Nat.le_of_not_lt λ z=> ?_;have z:(k - 1)%m<(j - 1)%m:=z;unfold wvB at bit;rw [decide_eq_true z] at bit;cases bit
theorem Pz {t u:Th} (ht:t∈Ao (w*m) (wvs cs m w h).length) (r:Rch (ovL (w*m) (wvs cs m w h)) t u):u∈Ao (w*m) (wvs cs m w h).length/\own m u<=own m t:=by
  induction r with
  | here=>exact ⟨ht,Aa6 _⟩
  | step r m ih=>exact ⟨mem_allT.mpr (ov_mem.mp m).1,Ae0 (SF ih.1 m) ih.2⟩
theorem Ol {t u:Th} (ht:t∈Ao (w*m) (wvs cs m w h).length) (hu:u∈Ao (w*m) (wvs cs m w h).length) (ne:u.1≠t.1) (z:own m u<own m t):u∈ovL (w*m) (wvs cs m w h) t:=by
  obtain ⟨t1,t2⟩:=mem_allT.mp ht;obtain ⟨u1,u2⟩:=mem_allT.mp hu;refine ov_mem.mpr ⟨⟨u1,u2⟩,ne,?_⟩;rw [Bw] at u2 t2;obtain ⟨b,k⟩:=t;obtain ⟨c,j⟩:=u;have u1:1<=j:=u1;have t1:1<=k:=t1;have z:(j - 1)%m<(k - 1)%m:=z;cases b with
  | true=>
    cases c with
    | true=>exact absurd rfl ne
    | false=>
      have u2:j<=w*m:=u2;have t2:k<=h*m:=t2;show ((wvs cs m w h).getD (k - 1) 0).testBit (j - 1)=true;rw [GD (by omega) (by omega)];unfold wvB;rw [decide_eq_true (show (j - 1)%m<(k - 1)%m from z)];rfl
  | false=>
    cases c with
    | false=>exact absurd rfl ne
    | true=>
      have u2:j<=h*m:=u2;have t2:k<=w*m:=t2;show ((wvs cs m w h).getD (j - 1) 0).testBit (k - 1)=false;rw [GD (by omega) (by omega)];unfold wvB;have z:(j - 1)%m<(k - 1)%m:=z;rw [decide_eq_false (show ¬ (k - 1)%m<(j - 1)%m by omega),decide_eq_false (show ¬ (k - 1)%m=(j - 1)%m by omega)];rfl
def em (m k:Nat) (t:Th):Th:=(t.1,(t.2 - 1)*m+k+1)
theorem K6 {i k n:Nat} (hi:i<n) (hk:k<m):i*m+k<n*m:=by
  have:(i+1)*m<=n*m:=Nat.mul_le_mul_right m hi;rw [Nat.succ_mul] at this;omega
theorem J8 {i k:Nat} (hk:k<m):(i*m+k)%m=k:=by rw [Nat.mul_comm,Nat.mul_add_mod,Nat.mod_eq_of_lt hk]
theorem Kt {i k:Nat} (hk:k<m):(i*m+k) / m=i:=by rw [Nat.mul_comm,Nat.mul_add_div (by omega),Nat.div_eq_of_lt hk,Nat.add_zero]
theorem Kz (W:Wv cs m w h) {i j k:Nat} (hk:k<m) (hi:i<h) (hj:j<w):((wvs cs m w h).getD (i*m+k) 0).testBit (j*m+k)=((cs.getD k []).getD i 0).testBit j:=by
  rw [GD (K6 hi hk) (K6 hj hk)];unfold wvB;rw [J8 hk,J8 hk,Kt hk,Kt hk,decide_eq_false (Ae5 k),decide_eq_true rfl];rfl
theorem W8 (W:Wv cs m w h) {k:Nat} (hk:k<m) {t u:Th} (ht:okT w h t) (hu:u∈ovL w (cs.getD k []) t):em m k u∈ovL (w*m) (wvs cs m w h) (em m k t):=by
  obtain ⟨⟨u1,u2⟩,ne,bit⟩:=ov_mem.mp hu;obtain ⟨t1,t2⟩:=ht;rw [W.cl k hk] at u2;obtain ⟨b,x⟩:=t;obtain ⟨c,j⟩:=u;have u1:1<=j:=u1;have t1:1<=x:=t1;refine ov_mem.mpr ⟨⟨Af9 (Ad3 _),?_⟩,ne,?_⟩
  · rw [Bw];cases c with
    | true=>exact K6 (show j - 1<h by have:j<=h:=u2;omega) hk
    | false=>exact K6 (show j - 1<w by have:j<=w:=u2;omega) hk
  · cases b with
    | true=>
      cases c with
      | true=>exact absurd rfl ne
      | false=>
        have bit:((cs.getD k []).getD (x - 1) 0).testBit (j - 1)=true:=bit;have u2:j<=w:=u2;have t2:x<=h:=t2;show ((wvs cs m w h).getD ((x - 1)*m+k+1 - 1) 0).testBit ((j - 1)*m+k+1 - 1)=true;rw [Ae3,Ae3,Kz W hk (by omega) (by omega)];exact bit
    | false=>
      cases c with
      | false=>exact absurd rfl ne
      | true=>
        have bit:((cs.getD k []).getD (j - 1) 0).testBit (x - 1)=false:=bit;have u2:j<=h:=u2;have t2:x<=w:=t2;show ((wvs cs m w h).getD ((j - 1)*m+k+1 - 1) 0).testBit ((x - 1)*m+k+1 - 1)=false;rw [Ae3,Ae3,Kz W hk (by omega) (by omega)];exact bit
theorem R8 (W:Wv cs m w h) {k:Nat} (hk:k<m) {t u:Th} (ht:okT w h t) (r:Rch (ovL w (cs.getD k [])) t u):okT w h u/\Rch (ovL (w*m) (wvs cs m w h)) (em m k t) (em m k u):=by
  induction r with
  | here=>exact ⟨ht, .here⟩
  | step r x ih=>
    have:=(ov_mem.mp x).1;rw [W.cl k hk] at this;exact ⟨this, .step ih.2 (W8 W hk ih.1 x)⟩
theorem QX {t:Th} (m1:1<=m) (ht:t∈Ao (w*m) (h*m)):∃ t',okT w h t'/\t=em m (own m t) t':=by
  obtain ⟨t1,t2⟩:=mem_allT.mp ht;obtain ⟨b,x⟩:=t;have t1:1<=x:=t1;have d:=Nat.div_add_mod (x - 1) m;refine ⟨(b,(x - 1) / m+1),⟨Af9 (Ad3 _),?_⟩,?_⟩
  · cases b with
    | true=>
      have t2:x<=h*m:=t2;show (x - 1) / m+1<=h;exact (Nat.div_lt_iff_lt_mul (by omega)).mpr (by omega)
    | false=>
      have t2:x<=w*m:=t2;show (x - 1) / m+1<=w;exact (Nat.div_lt_iff_lt_mul (by omega)).mpr (by omega)
  · unfold em own;refine Prod.ext rfl ?_;show x=((x - 1) / m+1 - 1)*m+(x - 1)%m+1;rw [Ae3,Nat.mul_comm];omega
theorem Oc (W:Wv cs m w h) {t u:Th} (ht:t∈Ao (w*m) (h*m)) (hu:u∈Ao (w*m) (h*m)) (e:own m u=own m t):Rch (ovL (w*m) (wvs cs m w h)) t u:=by
  have hk:own m t<m:=Nat.mod_lt _ W.m1;obtain ⟨t',t1,t2⟩:=QX W.m1 ht;obtain ⟨u',u1,u2⟩:=QX W.m1 hu;rw [t2,u2,e];exact (R8 W hk t1 (W.sc _ hk t' (mem_allT.mpr (by rw [W.cl _ hk];exact t1)) u' (mem_allT.mpr (by rw [W.cl _ hk];exact u1)))).2
theorem PQ (W:Wv cs m w h) {t u:Th} (ht:t∈Ao (w*m) (h*m)) (hu:u∈Ao (w*m) (h*m)):Bp (w*m) (wvs cs m w h) t u=true↔own m u<=own m t:=by
  rw [rel_iff];have ht':t∈Ao (w*m) (wvs cs m w h).length:=by rw [Bw];exact ht
  have hu':u∈Ao (w*m) (wvs cs m w h).length:=by rw [Bw];exact hu
  refine ⟨λ r=>(Pz ht' r).2,λ z=> ?_⟩;rcases Nat.lt_or_eq_of_le z with z | z
  · by_cases ne:u.1=t.1
    · have ho:own m u<m:=Nat.mod_lt _ W.m1;have hv:((!u.1,own m u+1):Th)∈Ao (w*m) (h*m):=by
        refine mem_allT.mpr ⟨Af9 (Ad3 _),?_⟩;have a1:m<=h*m:=Nat.le_mul_of_pos_left m W.h1;have a2:m<=w*m:=Nat.le_mul_of_pos_left m W.w1;show own m u+1<=if (!u.1)=true then h*m else w*m
        split <;> omega
      have eo:own m ((!u.1,own m u+1):Th)=own m u:=by
        show (own m u+1 - 1)%m=own m u;rw [Ae3,Nat.mod_eq_of_lt ho]
      refine (Rch.step .here (Ol ht' (by rw [Bw];exact hv) ?_ (by rw [eo];exact z))).trans (Oc W hv hu eo.symm);show (!u.1)≠t.1;rw [ne];cases t.1 <;> decide
    · exact .step .here (Ol ht' hu' ne z)
  · exact Oc W ht hu z
theorem Ql (W:Wv cs m w h) {Ls:List (List Th)} (st:ML.St (Ao (w*m) (wvs cs m w h).length) (Bp (w*m) (wvs cs m w h)) Ls [] Ls.flatten):Ls=(Aa5 m).map λ k=>(Ao (w*m) (h*m)).filter λ t=>decide (own m t=k):=by
  have p:=B7 (w*m) (wvs cs m w h);rw [Bw] at st p;refine O0 p st (own:=own m) (λ t _=>Nat.mod_lt _ W.m1) (λ k hk=>⟨(false,k+1),mem_allT.mpr ⟨Af9 (Ad3 _),?_⟩,?_⟩) λ t ht u hu=>PQ W ht hu
  · have a2:m<=w*m:=Nat.le_mul_of_pos_left m W.w1;show k+1<=w*m;omega
  · show (k+1 - 1)%m=k;rw [Ae3,Nat.mod_eq_of_lt hk]
theorem IM {k:Nat}:∀ n:Nat,(Aa5 n).filter (λ x=>decide (x=k))=if k<n then [k] else []
  | 0=>by simp
  | n+1=>by
    rw [Ai9,Ad6,IM n];rcases Nat.lt_trichotomy k n with z | z | z
    · rw [if_pos z,if_pos (by omega),Ae4,if_neg (by simp;omega)];rfl
    · rw [if_neg (by omega),if_pos (by omega),Ae4,if_pos (by simp;omega),z];rfl
    · rw [if_neg (by omega),if_neg (by omega),Ae4,if_neg (by simp;omega)];rfl
theorem Lm {k:Nat} (hk:k<m):∀ n:Nat,(Aa5 (n*m)).filter (λ i=>decide (i%m=k))=(Aa5 n).map λ i=>i*m+k
  | 0=>by simp
  | n+1=>by
    rw [Nat.succ_mul,List.range_add,Ad6,Lm hk n,Ai9,Ac5];congr 1;rw [List.filter_map];have e:(Aa5 m).filter ((λ i=>decide (i%m=k))∘λ x=>n*m+x)=[k]:=by
      have e1:(Aa5 m).filter ((λ i=>decide (i%m=k))∘λ x=>n*m+x)=(Aa5 m).filter λ x=>decide (x=k):=Ai2 λ x hx=>by
        have hx:=Ac0.mp hx;show decide ((n*m+x)%m=k)=_;rw [J8 hx]
      rw [e1,IM,if_pos hk]
    rw [e];rfl
def Pt (m w h k:Nat):List Th:=(Ao (w*m) (h*m)).filter λ t=>decide (own m t=k)
def B5 (m n k:Nat):List Nat:=(Aa5 n).map λ i=>i*m+k+1
theorem FV {k:Nat} (hk:k<m) (b:Bool):Aj b (Pt m w h k)=B5 m (if b=true then h else w) k:=by
  have g:∀ (b:Bool) (n:Nat),(((Aa5 (n*m)).map λ j=>((b,j+1):Th)).filter (λ t=>decide (own m t=k))).map (·.2)=B5 m n k:=λ b n=>by
    rw [List.filter_map,Ac8];have e:(Aa5 (n*m)).filter ((λ t=>decide (own m t=k))∘λ j=>((b,j+1):Th))=(Aa5 (n*m)).filter (λ i=>decide (i%m=k)):=Ai2 λ i _=>by
      show decide ((i+1 - 1)%m=k)=_;rw [Ae3]
    rw [e,Lm hk n,Ac8];rfl
  have z:∀ (b c:Bool) (l:List Nat) (f:Th->Bool),b≠c->((l.map λ j=>((b,j+1):Th)).filter f).filter (λ t=>decide (t.1=c))=[]:=λ b c l f ne=>Aj9.mpr λ t ht q=>by
    obtain ⟨j,_,rfl⟩:=Ab2.mp (Ac7.mp ht).1;exact ne (of_decide_eq_true q)
  have y:∀ (b:Bool) (l:List Nat) (f:Th->Bool),((l.map λ j=>((b,j+1):Th)).filter f).filter (λ t=>decide (t.1=b))=(l.map λ j=>((b,j+1):Th)).filter f:=λ b l f=>List.filter_eq_self.mpr λ t ht=>by
    obtain ⟨j,_,rfl⟩:=Ab2.mp (Ac7.mp ht).1;exact decide_eq_true rfl
  unfold Aj Pt Ao;rw [Ad6,Ad6];cases b with
  | true=>
    rw [z false true _ _ (by decide),y true,List.nil_append];exact g true h
  | false=>
    rw [z true false _ _ (by decide),y false,Ah8];exact g false w
theorem Bb {n k:Nat}:(B5 m n k).length=n:=by simp [B5]
theorem K7 {n k i:Nat} (hi:i<n):(B5 m n k).getD i 0=i*m+k+1:=by
  unfold B5;rw [Aa0,Aa8,Ai8 hi];rfl
theorem NT (W:Wv cs m w h) {k:Nat} (hk:k<m):Bj (wvs cs m w h) (Pt m w h k)=some (w,cs.getD k []):=by
  have w1:=W.w1;have h1:=W.h1;unfold Bj;rw [FV hk,FV hk];show (if B5 m w k=[]\/B5 m h k=[] then none else some ((B5 m w k).length,(B5 m h k).map (Gv (wvs cs m w h) (B5 m w k))))=_;rw [if_neg (λ z=>by
    rcases z with z | z
    · have:=congrArg List.length z;rw [Bb] at this;simp at this;omega
    · have:=congrArg List.length z;rw [Bb] at this;simp at this;omega),Bb]
  refine congrArg (λ z=>some (w,z)) ?_;refine Ag0 (by rw [Aa2,Bb,W.cl k hk]) λ i a1 a2=> ?_;have hi:i<h:=by rw [Aa2,Bb] at a1;exact a1
  rw [List.getElem_map];have ei:(B5 m h k)[i]'(by rw [Bb];exact hi)=i*m+k+1:=by
    have:=K7 (m:=m) (k:=k) hi
    rwa [L2.getD_el (by rw [Bb];exact hi)] at this
  rw [ei,LG,Bb];refine (MM.eq_ofB (W.bd k hk _ (Ad9 a2)) λ j hj=> ?_).symm;rw [K7 hj,Ae3,Ae3,Kz W hk hi hj,L2.getD_el a2]
end
open MG
theorem Uj {n m k:Nat} (hk:k<m) (hn:1<=n):Builtin.Range.rangeSize (((k:Nat):Int)+1) (((n*m:Nat):Int)+1) ((m:Nat):Int)=((n:Nat):Int):=by
  have a:n*m=(n - 1)*m+m:=by
    have:n=n - 1+1:=by omega
    conv=>lhs;rw [this,Nat.succ_mul]
  have e:(((n*m:Nat):Int)+1 - (((k:Nat):Int)+1) - 1)=(((n - 1)*m+(m - 1 - k):Nat):Int):=by
    rw [a];omega
  unfold Builtin.Range.rangeSize;rw [if_pos (by omega),if_pos (by rw [a];omega)];rw [e, <-Int.natCast_ediv,Kt (by omega)];omega
theorem Qz (n m k:Nat):((Aa5 n).map λ a:Nat=>(((k:Nat):Int)+1)+(a:Int)*((m:Nat):Int)).map V.int=(B5 m n k).map nV:=by
  unfold B5;rw [Ac8,Ac8];refine Af6 λ i _=> ?_;show V.int (((k:Nat):Int)+1+(i:Int)*((m:Nat):Int))=V.int ((i*m+k+1:Nat):Int);congr 1;push_cast;omega
def L5 (cs:List (List Nat)) (m w h k:Nat):Dt:= .tup [dL (B5 m w k),dL (B5 m h k), .tup [dN w,dL (cs.getD k [])]]
abbrev NY:Stmt:=top 51
theorem sc_law:FnScope ["_law_script","_law_whole_here","_law_many","_law_wide","_law_high","_law_k","_law_cloths","_law_rows","_law_pick","_law_own","_law_row","_law_end","_law_due","_law_some"] ["_law_script"] (Ai NY):=⟨rfl,rfl,rfl,by decide +kernel,rfl,by decide +kernel,by decide +kernel⟩
theorem Rm {f:Addr} {fd:FuncData} (F:Fun K "law" "law" NY f fd) (T:Txt K mg c) (c__law_whole:CallF P w K mg base "_law_whole" 1 ["_law_script"] (DP K)) (c__law_levels_right:CallF P w K mg base "_law_levels_right" 9 ["_law_script","_law_whole_here"] (Bz K)) (c__law_mixed:CallF P w K mg base "_law_mixed" 1 ["_law_cell","_law_k"] Cp) (c__law_hanging:CallF P w K mg base "_law_hanging" 4 ["_law_script","_law_whole_here","_law_k","_law_wide","_law_high"] (C5 K)) (c__law_up:CallF P w K mg base "_law_up" 1 ["_law_rows","_law_end","_law_pick"] BS) (c__law_told:CallF P w K mg base "_law_told" 2 ["_law_parts"] (CB c)) (c_taken_apart:CallF P w K mg base "taken_apart" 8 ["cloth"] (BJ c)) (m_Cloth:JJ P w K mg base "Cloth" c.Cloth 4 ["self","ends","rows"] (AR c)):FnOk P w K mg base CX0 10 f fd ["_law_script"] (KY K):=by
  refine F.ok sc_law (λ vs H Q E h=> ?_) (λ cdv A outer s H vs Q E hr h=> ?_)
  · obtain ⟨a,ns,rfl,_⟩:=h;rfl
  · obtain ⟨a,ns,rfl,sa,hl,k⟩:=h;have hu:=hr.units0;refine ⟨_,(Ad (Aq (i:=1) sc_law.nd rfl (Or.inr rfl) (Ah c__law_whole (hr.mono (by decide)) (Aa (pv 0) Ab)))
      (Ad (Bo (De (Bu (Ah c__law_levels_right hr (Aa (pv 0) (Aa (pv 1) Ab))))) (Ae (An C3)) AI)
      (Ad (Aq (i:=2) sc_law.nd rfl (Or.inl rfl) (Al AC Ag (Al A7 (Ah c__law_mixed (hr.mono (by decide)) (Aa (pv 1) (Aa Ag Ab))) Ag)))
      (Ad (Aq (i:=3) sc_law.nd rfl (Or.inr rfl) (Al AC Ag (Al A7 (Ah c__law_mixed (hr.mono (by decide)) (Aa (pv 1) (Aa Ag Ab))) Ag)))
      (Ad (Aq (i:=4) sc_law.nd rfl (Or.inr rfl) (Al AC Ag (Al A7 (Ah c__law_mixed (hr.mono (by decide)) (Aa (pv 1) (Aa Ag Ab))) Ag)))
      (Ad (Do (i:=6) sc_law.nd rfl (Or.inl rfl) (AE rfl (T.own _ (by decide)) (Aa (pv 2) Ab)) (λ _ _ _ _=>AJ) (λ _ _ _ _=>(Ah c__law_hanging (hr.mono (by decide)) (Aa (pv 2) (Aa (pv 3) (Aa (pv 0) (Aa (pv 4) (Aa (pv 1) Ab))))))))
      (Ad (Aq (i:=7) sc_law.nd rfl (Or.inl rfl) (AY Ab))
      (Ad (AQ PassesOwn.never rfl (AE rfl (T.own _ (by decide)) (Aa (Al Cf (pv 4) (pv 2)) Ab)) (Ar (i:=8) sc_law.nd rfl (Or.inl rfl)) (Ad (Aq (i:=9) sc_law.nd rfl (Or.inl rfl) (Al A7 (pv 8) (pv 2)))
      (Ad (Aq (i:=10) sc_law.nd rfl (Or.inl rfl) Ag)
      (Ad (AQ PassesOwn.never rfl (AE rfl (T.own _ (by decide)) (Aa (Al Cf (pv 3) (pv 2)) Ab)) (Ar (i:=11) sc_law.nd rfl (Or.inl rfl)) (Ae (Bo (PW.pt (EL (As Nh (Al A7 (pv 11) (pv 2)) (pv 9) (Aw _)) (Dg (PW.pt (Ga (As Cz (Al A7 (pv 11) (pv 2)) (pv 9) (Aw _)) (Eu (Bu (Ah c__law_up (hr.mono (by decide)) (Aa (AX (Dj (K:=K)) (pv 6) (pv 9) (λ _ _=>rfl)) (Aa (Al Gs (pv 11) (pv 2)) (Aa (Al Gs (pv 8) (pv 2)) Ab))))))))))) (Ae (Aq (i:=10) sc_law.nd rfl (Or.inl rfl) (Al AC (pv 10) (Al Eg Ag (pv 11))))) AI)))
      (Ae (A4 (Cr (K:=K) PySem.F.plainAttrs_list PySem.F.slot_list_append PySem.F.type_list_append AG (pv 7) (Aa (pv 10) Ab))))))))
      (Ad (Aq (i:=12) sc_law.nd rfl (Or.inl rfl) (AY Ab))
      (Ad (AQ PassesOwn.never rfl (AE rfl (T.own _ (by decide)) (Aa (pv 2) Ab)) (Ar (i:=5) sc_law.nd rfl (Or.inl rfl)) (Ad (Aq (i:=13) sc_law.nd rfl (Or.inl rfl) (Fk rfl (T.own _ (by decide)) rfl (T.own _ (by decide)) (Aa (Al AC (pv 5) Ag) (Aa (Al AC (Al Cf (pv 3) (pv 2)) Ag) (Aa (pv 2) Ab)))))
      (Ae (A4 (Cr (K:=K) PySem.F.plainAttrs_list PySem.F.slot_list_append PySem.F.type_list_append AG (pv 12) (Aa (A8 (Aa (pv 13) (Aa (Fk rfl (T.own _ (by decide)) rfl (T.own _ (by decide)) (Aa (Al AC (pv 5) Ag) (Aa (Al AC (Al Cf (pv 4) (pv 2)) Ag) (Aa (pv 2) Ab)))) (Aa (A8 (Aa (pv 3) (Aa (AX (Dj (K:=K)) (pv 6) (pv 5) (λ _ _=>rfl)) Ab))) Ab)))) Ab))))))
      (Ae (An (EA (Sw hr.units) (Ah c__law_told (hr.mono (by decide)) (Aa (Ah c_taken_apart (hr.mono (by decide)) (Aa (GS m_Cloth (hr.mono (by decide)) (Aa (Al Cf (pv 3) (pv 2)) (Aa (pv 7) Ab))) Ab)) Ab)) (pv 12) (Aw _)))))))))))))),?_⟩
    walk_at "w";refine ⟨a,ns,rfl,sa,hl,λ H1 W s1=> ?_⟩;walk_at "w";refine ⟨a,ns,W,rfl,s1.seq sa,hl,λ H2 s2=> ?_⟩;walk_at "w";refine ⟨W,3,rfl,⟨by decide,by decide⟩,?_⟩;walk_at "w";refine Az (by decide) ?_;walk_at "w";obtain ⟨m0,em,bm⟩:=Ez W 3 (m:=4) (by decide);rw [show Dm W 3%4=_ from em,show (1:Int)+((m0:Nat):Int)=((m0+1:Nat):Int) by omega];obtain ⟨m,qm⟩:∃ x:Nat,x=m0+1:=⟨_,rfl⟩;rw [<-qm];refine ⟨W,4,rfl,⟨by decide,by decide⟩,?_⟩;walk_at "w";refine Az (by decide) ?_;walk_at "w";obtain ⟨w0,ew,bw⟩:=Ez W 4 (m:=5) (by decide);rw [show Dm W 4%5=_ from ew,show (2:Int)+((w0:Nat):Int)=((w0+2:Nat):Int) by omega];obtain ⟨w,qw⟩:∃ x:Nat,x=w0+2:=⟨_,rfl⟩;rw [<-qw];refine ⟨W,5,rfl,⟨by decide,by decide⟩,?_⟩;walk_at "w";refine Az (by decide) ?_;walk_at "w";obtain ⟨h0,eh,bh⟩:=Ez W 5 (m:=5) (by decide);rw [show Dm W 5%5=_ from eh,show (2:Int)+((h0:Nat):Int)=((h0+2:Nat):Int) by omega];obtain ⟨h,qh⟩:∃ x:Nat,x=h0+2:=⟨_,rfl⟩;rw [<-qh];have s12:=s1.trans s2;refine ⟨_,rfl,by omega,by omega,λ D hD=> ?_⟩;rw [Ab6];refine Dv (Pv:=λ i y H'=>∃ (l:Addr) (rs:List Nat),y= .ref l/\l≠D/\H' l=some (.lst (rs.map nV))/\rs.length=h/\(∀ r∈rs,r<2 ^ w)/\SC w rs) (BU rfl) hD (by omega) ?_ ?_ ?_ ?_
    · rintro i y G1 G2 ⟨l,rs,e1,e2,e3,e4⟩ s;exact ⟨l,rs,e1,e2,s _ _ e3,e4⟩
    · rintro i y G1 ys o s ⟨l,rs,e1,e2,e3,e4⟩ _;exact ⟨l,rs,e1,e2,by rw [Ak e2];exact e3,e4⟩
    · rintro i H' R hi s ⟨ys,hys⟩ kk;walk_at "w";refine ⟨a,ns,W,i,w,h,rfl,(s12.trans s).seq sa,hl,by omega,by omega,by omega,by omega,by omega,λ H3 l rs s3 hl3 g3 r1 r2 r3=> ?_⟩;exact kk H3 _ s3 ⟨l,rs,rfl,(λ z=>by rw [z,hys] at hl3;cases hl3),g3,r1,r2,r3⟩
    intro H3 ys s3 g3 yl el;obtain ⟨ad,cs,hc⟩:∃ (ad:Nat->Addr) (cs:List (List Nat)),∀ i,i<m->ys[i]?=some (.ref (ad i))/\H3 (ad i)=some (.lst ((cs.getD i []).map nV))/\(cs.getD i []).length=h/\(∀ r∈cs.getD i [],r<2 ^ w)/\SC w (cs.getD i []):=by
      have ex:∀ i,∃ z:Addr × List Nat,i<m->ys[i]?=some (.ref z.1)/\H3 z.1=some (.lst (z.2.map nV))/\z.2.length=h/\(∀ r∈z.2,r<2 ^ w)/\SC w z.2:=λ i=>by
        by_cases hi:i<m
        · obtain ⟨l,rs,e1,e2,e3,e4,e5,e6⟩:=el i ys[i] (Aa1 (by omega));exact ⟨(l,rs),λ _=>⟨by rw [Aa1 (by omega),e1],e3,e4,e5,e6⟩⟩
        · exact ⟨(0,[]),λ z=>absurd z hi⟩
      refine ⟨λ i=>(ex i).choose.1,(Aa5 m).map λ i=>(ex i).choose.2,λ i hi=> ?_⟩;rw [show ((Aa5 m).map λ i=>(ex i).choose.2).getD i []=(ex i).choose.2 by rw [Aa0,Aa8,Ai8 hi];rfl];exact (ex i).choose_spec hi
    clear el;have Wq:Wv cs m w h:=⟨by omega,by omega,by omega,λ i hi=>(hc i hi).2.2.1,λ i hi=>(hc i hi).2.2.2.2,λ i hi=>(hc i hi).2.2.2.1⟩;walk_at "w";intro q hq;have s4:=Af (o:=HO.lst []) hq;have g4:upd H3 q (HO.lst []) q=some (.lst (((Aa5 0).map (wvR cs m w)).map nV)):=Ac;generalize upd H3 q (HO.lst [])=H4 at s4 g4 ⊢;walk_at "w";refine Az (.inl ⟨by omega,by omega⟩) ?_;rw [show ((h:Nat):Int)*((m:Nat):Int)=((h*m:Nat):Int) by push_cast;rfl];have m1:h*m<=24:=Nat.mul_le_mul (show h<=6 by omega) (show m<=4 by omega);have m2:w*m<=24:=Nat.mul_le_mul (show w<=6 by omega) (show m<=4 by omega);have m0:0<m:=by omega
    refine ⟨_,rfl,by omega,by omega,?_⟩;rw [Ab6];refine AH (H0:=H3) (A1 (n:=h*m)) (λ i σ H5=>∃ u1 u2 u3 u4,σ=[some (.ref a),some (.int W),some (nV m),some (nV w),some (nV h),none,some (.ref D),some (.ref q),u1,u2,u3,u4,none,none]/\Same H3 H5/\H5 q=some (.lst (((Aa5 i).map (wvR cs m w)).map nV))) ⟨_,_,_,_,rfl,s4,g4⟩ (λ i σ H5 ⟨_,_,_,_,_,s,_⟩=>s) ?_ ?_
    · rintro i σ H' H5 hi ⟨u1,u2,u3,u4,rfl,s',g'⟩ s5;have sH:=s'.trans s5;walk_at "w";refine Az (by show (0:Int)<_;omega) ?_;rw [show ((i:Nat):Int)%((m:Nat):Int)=((i%m:Nat):Int) by push_cast;rfl];walk_at "w";refine Az (.inl ⟨by omega,by omega⟩) ?_;rw [show ((w:Nat):Int)*((m:Nat):Int)=((w*m:Nat):Int) by push_cast;rfl];walk_at "w";refine ⟨_,rfl,by omega,by omega,?_⟩;rw [Ab6];have hd:i / m<h:=by rw [Nat.div_lt_iff_lt_mul m0];exact hi
      have hm:=Nat.mod_lt i m0;refine Dz (A1 (n:=w*m)) (λ e σ H6=>∃ u4,σ=[some (.ref a),some (.int W),some (nV m),some (nV w),some (nV h),none,some (.ref D),some (.ref q),some (.int (i:Nat)),some (nV (i%m)),some (nV (MM.ofB (wvB cs m i) e)),u4,none,none]/\Same H5 H6) ⟨_,rfl,Same.refl _⟩ (λ i σ H6 ⟨_,_,z⟩=>z) ?_ ?_
      · rintro e σ H6 H7 he ⟨u4,rfl,s6⟩ s7;have s57:=s6.trans s7;have sH7:=sH.trans s57;have finT:wvB cs m i e=true->nV (MM.ofB (wvB cs m i) (e+1))= .int (((MM.ofB (wvB cs m i) e:Nat):Int)+((2 ^ e:Nat):Int)):=λ hb=>by
          rw [QM hb];rfl
        have finF:wvB cs m i e=false->nV (MM.ofB (wvB cs m i) (e+1))=nV (MM.ofB (wvB cs m i) e):=λ hb=>by
          rw [QJ hb]
        generalize MM.ofB (wvB cs m i) (e+1)=Z at finT finF ⊢;generalize MM.ofB (wvB cs m i) e=Y0 at finT finF ⊢;have emod:((e:Nat):Int)%((m:Nat):Int)=((e%m:Nat):Int):=by push_cast;rfl
        obtain ⟨c1,c2,c3,_⟩:=hc _ hm;walk_at "w";refine Az (by show (0:Int)<_;omega) ?_;rw [emod];walk_at "w";unfold wvB at finT finF;generalize hE:e%m=eM at*;generalize hO:i%m=oM at*;by_cases d1:eM<oM
        · rw [decide_eq_true (by omega)];rw [decide_eq_true d1,Bool.true_or] at finT;refine Gy ?_;walk_at "w";refine Az ⟨by omega,by omega,by decide⟩ ?_;walk_at "w";rw [F8, <-finT rfl];exact ⟨_,rfl,s57⟩
        · rw [decide_eq_false (by omega)];rw [decide_eq_false d1,Bool.false_or] at finT finF;refine Gg ?_;walk_at "w";refine Az (by show (0:Int)<_;omega) ?_;rw [emod];walk_at "w";by_cases d2:eM=oM
          · rw [decide_eq_true (by omega)];rw [decide_eq_true d2,Bool.true_and] at finT finF;refine Gy ?_;walk_at "w";refine BK (SqL.of (sH7 _ _ g3)) (AT (j:=oM) c1) ?_;walk_at "w";refine Az ⟨by omega,by omega⟩ ?_;rw [show ((e:Nat):Int) / ((m:Nat):Int)=((e / m:Nat):Int) by push_cast;rfl];walk_at "w";refine Az ⟨by omega,by omega⟩ ?_;rw [show ((i:Nat):Int) / ((m:Nat):Int)=((i / m:Nat):Int) by push_cast;rfl];walk_at "w";refine ⟨_,_,e / m,i / m,rfl,sH7 _ _ c2,by rw [c3];exact hd,?_⟩;walk_at "w";refine Ko (λ hb2=> ?_) (λ hb2=> ?_)
            · walk_at "w";refine Az ⟨by omega,by omega,by decide⟩ ?_;walk_at "w";rw [F8, <-finT hb2];exact ⟨_,rfl,s57⟩
            · walk_at "w";rw [<-finF hb2];exact ⟨_,rfl,s57⟩
          · rw [decide_eq_false (by omega)];rw [decide_eq_false d2,Ai3] at finF;refine Gg ?_;walk_at "w";rw [<-finF rfl];exact ⟨_,rfl,s57⟩
      · rintro σ H6 ⟨u4,rfl,s6⟩;have g6:=s6 _ _ (s5 _ _ g');walk_at "w";refine tyL (SqL.of g6) ?_;walk_at "w";refine BV g6 (by simp;omega) ?_;walk_at "w";refine ⟨_,_,_,_,rfl,Bl (sH.trans s6) hq,?_⟩;rw [Ac,Ai9,Ac5,Ac5];rfl
    · rintro σ H5 ⟨u1,u2,u3,u4,rfl,s5,g5⟩;have g5:H5 q=some (.lst ((wvs cs m w h).map nV)):=g5;walk_at "w";intro d hd;have s6:=Af (o:=HO.lst []) hd;have g6:upd H5 d (HO.lst []) d=_:=Ac;generalize upd H5 d (HO.lst [])=H6 at s6 g6 ⊢;have hd3:H3 d=none:=s5.free hd;have nqd:q≠d:=Ap g5 hd;walk_at "w";refine ⟨_,rfl,by omega,by omega,?_⟩;rw [Ab6];refine AH (H0:=H5) (A1 (n:=m)) (λ i σ H7=>∃ u5 u13 vs,σ=[some (.ref a),some (.int W),some (nV m),some (nV w),some (nV h),u5,some (.ref D),some (.ref q),u1,u2,u3,u4,some (.ref d),u13]/\Same H5 H7/\H7 d=some (.lst vs)/\vs.length=i/\∀ (j:Nat) (v:V),vs[j]?=some v->Rp H7 (λ b=>b≠d) 3 v (L5 cs m w h j)) ⟨_,_,[],rfl,s6,g6,rfl,λ j v z=>by simp at z⟩ (λ i σ H7 ⟨_,_,_,_,s,_⟩=>s) ?_ ?_
      · rintro i σ H' H7 hi ⟨u5,u13,vs,rfl,s7',g7',lv,rv⟩ s7;have s57:=s7'.trans s7;have g7:=s7 _ _ g7';obtain ⟨c1,c2,c3,_⟩:=hc i hi;walk_at "w";refine Ff ?_;walk_at "w";refine Az (.inl ⟨by omega,by omega⟩) ?_;rw [show ((w:Nat):Int)*((m:Nat):Int)=((w*m:Nat):Int) by push_cast;rfl];walk_at "w";refine ⟨_,_,_,w,rfl,⟨by omega,by omega⟩,⟨by omega,by omega⟩,⟨by omega,by omega⟩,Uj hi (by omega),by omega,λ l1 hl1=> ?_⟩;rw [Qz];have s8:=Af (o:=HO.lst ((B5 m w i).map nV)) hl1;have g8:upd H7 l1 (HO.lst ((B5 m w i).map nV)) l1=_:=Ac;have n8:l1≠d:=λ z=>by rw [z,g7] at hl1;cases hl1
        generalize upd H7 l1 (HO.lst ((B5 m w i).map nV))=H8 at s8 g8 ⊢;walk_at "w";refine tyL (SqL.of (s8 _ _ g7)) ?_;walk_at "w";refine Ff ?_;walk_at "w";refine Az (.inl ⟨by omega,by omega⟩) ?_;rw [show ((h:Nat):Int)*((m:Nat):Int)=((h*m:Nat):Int) by push_cast;rfl];walk_at "w";refine ⟨_,_,_,h,rfl,⟨by omega,by omega⟩,⟨by omega,by omega⟩,⟨by omega,by omega⟩,Uj hi (by omega),by omega,λ l2 hl2=> ?_⟩;rw [Qz];have s9:=Af (o:=HO.lst ((B5 m h i).map nV)) hl2;have g9:upd H8 l2 (HO.lst ((B5 m h i).map nV)) l2=_:=Ac;have n9:l2≠d:=λ z=>by rw [z,s8 _ _ g7] at hl2;cases hl2
        generalize upd H8 l2 (HO.lst ((B5 m h i).map nV))=H9 at s9 g9 ⊢;have s79:=s8.trans s9;have s39:=s5.trans (s57.trans s79);walk_at "w";refine BK (SqL.of (s39 _ _ g3)) (AT (j:=i) c1) ?_;walk_at "w";intro t1 ht1;have s10:=Af (o:=HO.tup [nV w, .ref (ad i)]) ht1;have g10:upd H9 t1 (HO.tup [nV w, .ref (ad i)]) t1=_:=Ac;generalize upd H9 t1 (HO.tup [nV w, .ref (ad i)])=H10 at s10 g10 ⊢;walk_at "w";intro t2 ht2;have s11:=Af (o:=HO.tup [.ref l1, .ref l2, .ref t1]) ht2;have g11:upd H10 t2 (HO.tup [.ref l1, .ref l2, .ref t1]) t2=_:=Ac;generalize upd H10 t2 (HO.tup [.ref l1, .ref l2, .ref t1])=H11 at s11 g11 ⊢;have s911:=s10.trans s11;have s711:=s79.trans s911;walk_at "w";refine BV (s711 _ _ g7) (by omega) ?_;walk_at "w";have nad:ad i≠d:=λ z=>by rw [z,hd3] at c2;cases c2
        have rN:Rp H11 (λ b=>b≠d) 3 (.ref t2) (L5 cs m w h i):=KN g11 (F7 ((s9.trans s911) _ _ g8) n8 (by rw [Bb];omega)) (F7 (s911 _ _ g9) n9 (by rw [Bb];omega)) (B9 (s11 _ _ g10) (.int _) (F7 ((s39.trans s911) _ _ c2) nad (by rw [c3];omega)));have up:∀ {v:V} {e:Dt},Rp H11 (λ b=>b≠d) 3 v e->∀ o,Rp (upd H11 d o) (λ b=>b≠d) 3 v e:=λ r o=>r.upd (λ _ _ z=>z rfl) (λ xs z=>by rw [s711 _ _ g7] at z;cases z) (λ o z=>by rw [s711 _ _ g7] at z;cases z;exact .inl ⟨_,rfl⟩);refine ⟨_,_,vs++[.ref t2],rfl,Bl (s57.trans s711) hd,Ac,by rw [Ab0,lv];rfl,λ j v hv=> ?_⟩;rcases Ad4 j vs.length with z | z
        · rw [Ab5 z] at hv;exact up ((rv j v hv).same (s7.trans s711)) _
        · have ej:j=vs.length:=by
            have:=(Ab1.mp hv).1;simp at this;omega
          subst ej;rw [Ag4] at hv;cases hv;rw [lv];exact up rN _
      · rintro σ H7 ⟨u5,u13,vs,rfl,s7,g7,lv,rv⟩;walk_at "w";refine Az (.inl ⟨by omega,by omega⟩) ?_;rw [show ((w:Nat):Int)*((m:Nat):Int)=((w*m:Nat):Int) by push_cast;rfl];walk_at "w";have w1:1<=w*m:=Nat.mul_le_mul (show 1<=w by omega) (show 1<=m by omega);have h1:1<=h*m:=Nat.mul_le_mul (show 1<=h by omega) (show 1<=m by omega);have okC:ClOk (w*m) (wvs cs m w h):=⟨w1,by omega,by rw [Bw];exact h1,by rw [Bw];omega,λ r hr=>by
          obtain ⟨i,_,rfl⟩:=Ab2.mp hr;exact MM.ofB_lt _ _⟩
        refine N9 (n:=w*m) (s7 _ _ g5) okC λ H8 x s8 hx C0=> ?_;walk_at "w";refine ⟨x,w*m,_,rfl,C0,okC,by rw [Bw];omega,λ H9 q9 pv Ls s9 hq9 gq9 pl sq=> ?_⟩;have Ll:=Kl okC sq;walk_at "w";refine ⟨q9,_,pv,_,Ls,rfl,gq9,pl,by omega,(λ l hl=>⟨(BF okC sq hl).2.1,(BF okC sq hl).2.2.1⟩),λ H10 q10 ys10 s10 hq10 g10 yl10 el10=> ?_⟩;have eL:=Ql Wq sq.st;have lL:Ls.length=m:=by rw [eL,Aa2,Ad7]
        walk_at "w";have s710:=s8.trans (s9.trans s10);have dd:∀ i,i<m->Jb (wvs cs m w h) (Ls.getD i [])=L5 cs m w h i:=λ i hi=>by
          have:Ls.getD i []=Pt m w h i:=by
            rw [eL,Aa0,Aa8,Ai8 hi];rfl
          rw [this];unfold Jb L5;rw [FV hi,FV hi,NT Wq hi];rfl
        have mk:∀ (H:Hp) (a:Addr) (vs:List V),H a=some (.lst vs)->vs.length=m->(∀ (j:Nat) (v:V),vs[j]?=some v->Rp H FT 3 v (L5 cs m w h j))->Rp H FT 4 (.ref a) (.lst ((Aa5 m).map (L5 cs m w h))):=λ H a vs g l r=>by
          refine .lst g trivial (by omega) (by rw [l,Aa2,Ad7]) λ i v e hv he=> ?_;have hi:i<m:=by
            have:=(Ab1.mp hv).1;omega
          rw [Aa8,Ai8 hi] at he;cases he;exact r i v hv
        have r1:=mk H10 q10 ys10 g10 (yl10.trans lL) λ j v hv=>by
          have hj:j<m:=by
            have:=(Ab1.mp hv).1;omega
          rw [<-dd j hj];exact el10 j v hv
        have r2:=mk H10 d vs (s710 _ _ g7) lv λ j v hv=>((rv j v hv).same s710).any;refine ⟨4,_,_,by decide,r1,r2,rfl,?_⟩;rw [Cw];exact k _
end
end K28
namespace K28
open PySem L2 PySem.Spec PyProof.Rows
theorem all_mk {l:PySem.W.OpenLaw} {w:World} {K:PySem.W.Frag} {h:Heap} {mg:Str->Option Value} {fa:Addr} (X:K.In h) (G:h.Ns mainGlobals mg) (hfa:mg "law"=some (.ref fa))
    {C_Cloth f0 f1 f2 f3 f4 f5 f6 f7 f8 f9 f10 f11 f12 f13 f14 f15 f16 f17 f18 f19 f20 f21 f22 f23 f24 f25 f26 f27 f28 f29 f30 f31 f32 f33 f34 f35 f36 f37 f38 f39 f40 f41 f42 f43:Addr} {d0 d1 d2 d3 d4 d5 d6 d7 d8 d9 d10 d11 d12 d13 d14 d15 d16 d17 d18 d19 d20 d21 d22 d23 d24 d25 d26 d27 d28 d29 d30 d31 d32 d33 d34 d35 d36 d37 d38 d39 d40 d41 d42 d43:FuncData}
    (T0:Txt K mg ⟨C_Cloth⟩)
    (D0:DefAt K mg "bit_of" Gm ["number"] f0 d0)
    (D1:DefAt K mg "mask_of" ES ["numbers"] f1 d1)
    (D2:DefAt K mg "mask_to" EW ["most"] f2 d2)
    (D3:DefAt K mg "has_number" CF ["mask","number"] f3 d3)
    (D4:DefAt K mg "numbers_of" CI ["mask"] f4 d4)
    (D5:DefAt K mg "other_mask" CH ["mask","most"] f5 d5)
    (D6:DefAt K mg "is_whole" Eb ["thing"] f6 d6)
    (D7:DefAt K mg "is_among" Ed ["thing","least","most"] f7 d7)
    (D8:DefAt K mg "need_cloth" CY ["ends","rows"] f8 d8)
    (j9:Mk K C_Cloth f9)
    (D9:FnA K "__init__" "Cloth.__init__" Br ["self","ends","rows"] f9 d9)
    (j10:Meth K C_Cloth "told" f10)
    (D10:FnA K "told" "Cloth.told" CP ["self"] f10 d10)
    (j11:Meth K C_Cloth "ends" f11)
    (D11:FnA K "ends" "Cloth.ends" CD ["self"] f11 d11)
    (j12:Meth K C_Cloth "picks" f12)
    (D12:FnA K "picks" "Cloth.picks" Ci ["self"] f12 d12)
    (j13:Meth K C_Cloth "column_at" f13)
    (D13:FnA K "column_at" "Cloth.column_at" Bi ["self","end"] f13 d13)
    (D14:DefAt K mg "end_threads" Co ["ends"] f14 d14)
    (D15:DefAt K mg "pick_threads" BM ["picks"] f15 d15)
    (D16:DefAt K mg "threads_of" CJ ["cloth"] f16 d16)
    (j17:Meth K C_Cloth "row_at" f17)
    (D17:FnA K "row_at" "Cloth.row_at" BY ["self","pick"] f17 d17)
    (D18:DefAt K mg "over_of" E1 ["cloth","thread"] f18 d18)
    (D19:DefAt K mg "overs_of" Ei ["cloth"] f19 d19)
    (D20:DefAt K mg "threads_ahead" BB ["overs","one"] f20 d20)
    (D21:DefAt K mg "lifted_layers" BA ["cloth"] f21 d21)
    (D22:DefAt K mg "is_next" EY ["lifted","layer","told"] f22 d22)
    (D23:DefAt K mg "next_place" CC ["waiting","told"] f23 d23)
    (D24:DefAt K mg "layers_of" Dr ["cloth"] f24 d24)
    (j25:Meth K C_Cloth "is_up" f25)
    (D25:FnA K "is_up" "Cloth.is_up" Ck ["self","end","pick"] f25 d25)
    (D26:DefAt K mg "numbers_in" CW ["layer","kind"] f26 d26)
    (D27:DefAt K mg "part_row" Ea ["cloth","ends","pick"] f27 d27)
    (D28:DefAt K mg "part_of" Fd ["cloth","layer"] f28 d28)
    (D29:DefAt K mg "taken_apart" Cm ["cloth"] f29 d29)
    (D30:DefAt K mg "_law_mixed" CZ ["_law_cell","_law_k"] f30 d30)
    (D31:DefAt K mg "_law_whole" CG ["_law_script"] f31 d31)
    (D32:DefAt K mg "_law_up" ET ["_law_rows","_law_end","_law_pick"] f32 d32)
    (D33:DefAt K mg "_law_levelled" BC ["_law_script","_law_whole_here"] f33 d33)
    (D34:DefAt K mg "_law_numbers" B4 ["_law_things"] f34 d34)
    (D35:DefAt K mg "_law_threads" BO ["_law_part_here"] f35 d35)
    (D36:DefAt K mg "_law_part" Dc ["_law_rows","_law_ends","_law_picks"] f36 d36)
    (D37:DefAt K mg "_law_told" Dd ["_law_parts"] f37 d37)
    (D38:DefAt K mg "_law_parted" Cq ["_law_rows","_law_parts"] f38 d38)
    (D39:DefAt K mg "_law_levels_right" A5 ["_law_script","_law_whole_here"] f39 d39)
    (D40:DefAt K mg "_law_led" DW ["_law_wide","_law_rows","_law_way"] f40 d40)
    (D41:DefAt K mg "_law_hangs" CN ["_law_wide","_law_rows"] f41 d41)
    (D42:DefAt K mg "_law_hanging" BR ["_law_script","_law_whole_here","_law_k","_law_wide","_law_high"] f42 d42)
    (D43:DefAt K mg "law" NY ["_law_script"] f43 d43)
    (hlb:∀ (s:Shared) (u:Value),BindsTo s d43 ⟨[u],[]⟩ [("_law_script",u)])
    : ∃ fd:FuncData,(∀ (s:Shared) (v:Value),BindsTo s fd ⟨[v],[]⟩ [("_law_script",v)])/\∀ base:Heap,K.In base->base.Ns mainGlobals mg->FnOk l.prog w K mg base CX0 10 fa fd ["_law_script"] (KY K):=by
  cases hfa.symm.trans D43.at';have T:=T0;exact ⟨_,hlb,λ base _ _=>by
    have c_bit_of:=D0.call (Ml (P:=l.prog) (w:=w) (base:=base) D0.fn T);have c_mask_of:=D1.call (Kx (P:=l.prog) (w:=w) (base:=base) D1.fn T c_bit_of);have c_mask_to:=D2.call (J6 (P:=l.prog) (w:=w) (base:=base) D2.fn T);have c_has_number:=D3.call (Hm (P:=l.prog) (w:=w) (base:=base) D3.fn T c_bit_of);have c_numbers_of:=D4.call (Hk (P:=l.prog) (w:=w) (base:=base) D4.fn T c_has_number);have c_other_mask:=D5.call (Hn (P:=l.prog) (w:=w) (base:=base) D5.fn T c_mask_to);have c_is_whole:=D6.call (Jt (P:=l.prog) (w:=w) (base:=base) D6.fn T);have c_is_among:=D7.call (Jo (P:=l.prog) (w:=w) (base:=base) D7.fn T c_is_whole);have c_need_cloth:=D8.call (GV (P:=l.prog) (w:=w) (base:=base) D8.fn T c_is_among c_mask_to);have m_Cloth:JJ l.prog w K mg base "Cloth" C_Cloth 4 ["self","ends","rows"] _:=⟨_,_,T.g_Cloth,j9,EF (P:=l.prog) (w:=w) (base:=base) D9.fn T c_need_cloth,D9.bi⟩;have d_Cloth_told:BW l.prog w K mg base C_Cloth "told" 1 ["self"] _:=⟨_,_,T.kd_Cloth.cl,j10,GX (P:=l.prog) (w:=w) (base:=base) D10.fn T,D10.bi⟩;have d_Cloth_ends:BW l.prog w K mg base C_Cloth "ends" 1 ["self"] _:=⟨_,_,T.kd_Cloth.cl,j11,Hq (P:=l.prog) (w:=w) (base:=base) D11.fn T,D11.bi⟩;have d_Cloth_picks:BW l.prog w K mg base C_Cloth "picks" 1 ["self"] _:=⟨_,_,T.kd_Cloth.cl,j12,GQ (P:=l.prog) (w:=w) (base:=base) D12.fn T,D12.bi⟩;have d_Cloth_column_at:BW l.prog w K mg base C_Cloth "column_at" 3 ["self","end"] _:=⟨_,_,T.kd_Cloth.cl,j13,Ec (P:=l.prog) (w:=w) (base:=base) D13.fn T c_mask_of c_has_number,D13.bi⟩;have c_end_threads:=D14.call (Gx (P:=l.prog) (w:=w) (base:=base) D14.fn T);have c_pick_threads:=D15.call (FI (P:=l.prog) (w:=w) (base:=base) D15.fn T);have c_threads_of:=D16.call (GY (P:=l.prog) (w:=w) (base:=base) D16.fn T c_end_threads c_pick_threads d_Cloth_ends d_Cloth_picks);have d_Cloth_row_at:BW l.prog w K mg base C_Cloth "row_at" 1 ["self","pick"] _:=⟨_,_,T.kd_Cloth.cl,j17,FF (P:=l.prog) (w:=w) (base:=base) D17.fn T,D17.bi⟩;have c_over_of:=D18.call (Kj (P:=l.prog) (w:=w) (base:=base) D18.fn T c_end_threads c_pick_threads c_numbers_of c_other_mask d_Cloth_row_at d_Cloth_column_at d_Cloth_picks);have c_overs_of:=D19.call (IZ (P:=l.prog) (w:=w) (base:=base) D19.fn T c_threads_of c_over_of);have c_threads_ahead:=D20.call (ER (P:=l.prog) (w:=w) (base:=base) D20.fn T);have c_lifted_layers:=D21.call (EU (P:=l.prog) (w:=w) (base:=base) D21.fn T c_overs_of c_threads_of c_threads_ahead);have c_is_next:=D22.call (Ka (P:=l.prog) (w:=w) (base:=base) D22.fn T);have c_next_place:=D23.call (Hu (P:=l.prog) (w:=w) (base:=base) D23.fn T c_is_next);have c_layers_of:=D24.call (Ij (P:=l.prog) (w:=w) (base:=base) D24.fn T c_lifted_layers c_next_place);have d_Cloth_is_up:BW l.prog w K mg base C_Cloth "is_up" 3 ["self","end","pick"] _:=⟨_,_,T.kd_Cloth.cl,j25,Ge (P:=l.prog) (w:=w) (base:=base) D25.fn T c_has_number,D25.bi⟩;have c_numbers_in:=D26.call (G0 (P:=l.prog) (w:=w) (base:=base) D26.fn T);have c_part_row:=D27.call (JU (P:=l.prog) (w:=w) (base:=base) D27.fn T c_mask_of d_Cloth_is_up);have c_part_of:=D28.call (KA (P:=l.prog) (w:=w) (base:=base) D28.fn T c_numbers_in c_part_row m_Cloth);have c_taken_apart:=D29.call (F3 (P:=l.prog) (w:=w) (base:=base) D29.fn T c_layers_of c_part_of);have c__law_mixed:=D30.call (GU (P:=l.prog) (w:=w) (base:=base) D30.fn T);have c__law_whole:=D31.call (G6 (P:=l.prog) (w:=w) (base:=base) D31.fn T);have c__law_up:=D32.call (Kb (P:=l.prog) (w:=w) (base:=base) D32.fn T);have c__law_levelled:=D33.call (EV (P:=l.prog) (w:=w) (base:=base) D33.fn T c__law_mixed);have c__law_numbers:=D34.call (FD (P:=l.prog) (w:=w) (base:=base) D34.fn T);have c__law_threads:=D35.call (FK (P:=l.prog) (w:=w) (base:=base) D35.fn T);have c__law_part:=D36.call (Ir (P:=l.prog) (w:=w) (base:=base) D36.fn T c__law_up);have c__law_told:=D37.call (IE (P:=l.prog) (w:=w) (base:=base) D37.fn T d_Cloth_told);have c__law_parted:=D38.call (Gz (P:=l.prog) (w:=w) (base:=base) D38.fn T c__law_up);have c__law_levels_right:=D39.call (Dy (P:=l.prog) (w:=w) (base:=base) D39.fn T c__law_levelled m_Cloth c_taken_apart c__law_numbers c__law_parted c__law_threads c_layers_of c__law_told c__law_part);have c__law_led:=D40.call (Je (P:=l.prog) (w:=w) (base:=base) D40.fn T c__law_up);have c__law_hangs:=D41.call (Ht (P:=l.prog) (w:=w) (base:=base) D41.fn T c__law_led);have c__law_hanging:=D42.call (FM (P:=l.prog) (w:=w) (base:=base) D42.fn T c__law_hangs);exact Rm D43.fn T c__law_whole c__law_levels_right c__law_mixed c__law_hanging c__law_up c__law_told c_taken_apart m_Cloth
    ⟩
theorem walk {l:PySem.W.OpenLaw} {q:Program} {loose:List Str} {XP:(Str->Option Value)->Heap->Prop} {YP:World->Heap->Prop} {d:DefRec} {K:Params->PySem.W.Frag} (hn:l.most=some 63) (hdf:d.params.defaults=[])
    (hY:∀ (w:World) (h:Heap),YP w h->(K w.params).In h)
    (F:∀ (w:World) (mg:Str->Option Value) (fa:Addr) (h:Heap),(K w.params).In h->h.Ns mainGlobals mg->mg d.name=some (.ref fa)->
      ∃ fd:FuncData,(∀ (s:Shared) (v:Value),BindsTo s fd ⟨[v],[]⟩ [("_law_script",v)])/\∀ base:Heap,(K w.params).In base->base.Ns mainGlobals mg->FnOk l.prog w (K w.params) mg base CX0 10 fa fd ["_law_script"] (KY (K w.params))):
    PySem.W.WalkO q loose XP YP l.row.toRowW d [] (λ f vs=>PySem.call f vs):=
  L2.walk_of (n:=63) (k:=10) (x:="_law_script") (CX:=λ _=>CX0) (sp:=λ w=>KY (K w.params)) hn (by decide) hdf ⟨rfl,by decide,by decide⟩ hY F (λ _ _ a ns hl _ hS=>⟨a,ns,rfl,hS,hl,λ _=>rfl⟩) λ _ _ _ _ _ z=>z
end K28
open PySem PySem.W PyProof.Rows
set_option maxRecDepth 100000 in
set_option maxHeartbeats 0 in
theorem PySem.Challenge.cw_loomwright_k28_taken_apart_holds : PySem.Challenge.rw_loomwright_k28_taken_apart.Holds := by
  w_on
  refine PySem.W.holds_law (by first | k_qdec | decide +kernel) λ said=> ?_;refine PySem.W.holds_open (q:=K28.view) (loose:=[]) (Xt:=K28.Xt) (XP:=PySem.W.XL K28.view []) (Yf:=(PySem.W.kHook K28.frag K28.addrs K28.addrs_eq).obs) (Ya:=(PySem.W.kHook K28.frag K28.addrs K28.addrs_eq).val) (YP:=(PySem.W.kHook K28.frag K28.addrs K28.addrs_eq).says) (N:=K28.fuel) K28.left (PySem.W.kHook K28.frag K28.addrs K28.addrs_eq).of (PySem.W.kHook K28.frag K28.addrs K28.addrs_eq).keeps (λ s e=>PySem.W.xl_of s (Bool.and_eq_true_iff.mp e).1) PySem.W.XL.keeps (by rfl) (by rfl) (by rfl) (λ s e=>PySem.W.recFacts_of (Bool.and_eq_true_iff.mp e).2) (by rfl) (by first | assumption | decide +kernel) (by first | k_qdec | decide +kernel) ⟨rfl,rfl,rfl,rfl,rfl,by decide +kernel⟩ ?hw ?hc
  (case hw=>w_witness2)
  k_fill
  refine K28.walk (l:=PySem.Challenge.rw_loomwright_k28_taken_apart) rfl rfl (λ w h Y=>PySem.W.kIn_of Y) ?F
  case F=>
    intro w mg fa h KX G hmg;refine' K28.all_mk KX G hmg ?T ?_ ?_ ?_ ?_ ?_ ?_ ?_ ?_ ?_ ?_ ?_ ?_ ?_ ?_ ?_ ?_ ?_ ?_ ?_ ?_ ?_ ?_ ?_ ?_ ?_ ?_ ?_ ?_ ?_ ?_ ?_ ?_ ?_ ?_ ?_ ?_ ?_ ?_ ?_ ?_ ?_ ?_ ?_ ?_ ?_ ?_ ?_ ?_ ?_ ?_ ?_ ?_
    case T=>
      intros
      constructor
      all_goals try dsimp only
      all_goals try ((with_reducible refine' PySem.W.mg_of KX G ?_);k_is)
      all_goals first
        | ((with_reducible refine' L2.own_cons (PySem.W.mg_none_of KX G ?_) ?_) <;> (repeat' first | (with_reducible exact L2.own_nil) | (with_reducible refine' L2.own_cons (PySem.W.mg_none_of KX G ?_) ?_) | k_is))
        | ((with_reducible first | refine' L2.ci_mk (PySem.W.mg_of KX G ?_) | refine' L2.cs_mk (PySem.W.mg_of KX G ?_)) <;> first | k_is | skip)
        | with_reducible assumption
        | (refine' ⟨⟨?_,?_,?_,?_⟩,?_,?_,?_,?_⟩ <;> k_is)
        | ((with_reducible refine' L2.exc_mk ?_ ?_ ?_ ?_ ?_ ?_ ?_ ?_) <;> k_is)
        | (refine' ⟨?_,?_,?_⟩ <;> first | k_is | kernel_rfl)
        | (unfold L2.NoAttr;k_is)
        | k_is | k_exc | kts_exm | kit_is
    all_goals first
      | (refine' L2.def_mk (PySem.W.mg_of KX G ?_) (L2.fun_mk ?_ ?_ ?_) ?_ <;> first | k_is | exact L2.arg1 λ _=>rfl | exact L2.arg2 λ _ _=>rfl | exact L2.arg3 λ _ _ _=>rfl | exact L2.arg4 λ _ _ _ _=>rfl | exact L2.arg5 λ _ _ _ _ _=>rfl | exact L2.arg6 λ _ _ _ _ _ _=>rfl | exact L2.arg7 λ _ _ _ _ _ _ _=>rfl | exact L2.arg8 λ _ _ _ _ _ _ _ _=>rfl | exact L2.arg9 λ _ _ _ _ _ _ _ _ _=>rfl | skip)
      | (refine' L2.fnA_mk (L2.fun_mk ?_ ?_ ?_) ?_ <;> first | k_is | exact L2.arg1 λ _=>rfl | exact L2.arg2 λ _ _=>rfl | exact L2.arg3 λ _ _ _=>rfl | exact L2.arg4 λ _ _ _ _=>rfl | exact L2.arg5 λ _ _ _ _ _=>rfl | exact L2.arg6 λ _ _ _ _ _ _=>rfl | exact L2.arg7 λ _ _ _ _ _ _ _=>rfl | exact L2.arg8 λ _ _ _ _ _ _ _ _=>rfl | exact L2.arg9 λ _ _ _ _ _ _ _ _ _=>rfl | skip)
      | (refine' ⟨?_,?_,?_,?_⟩;all_goals first | k_is | kernel_rfl | skip)
      | (refine' ⟨?_,?_,?_⟩;all_goals first | k_is | kernel_rfl | skip)
      | k_is
      | exact λ s u=> .of_eq rfl
      | rfl | kernel_rfl | exact Ae1 | decide | skip
