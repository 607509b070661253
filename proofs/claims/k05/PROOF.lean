import PyProof.Rows.All
import Wide.All
import OpenK.AllK
import Wide.FinOn
import Lean
import PyProof.EqAt
import PyProof.EqKinds
import PyProof.TupleCall
import PyProof.StrLawsChain
import KE.KIntText
import PyProof.EnumFor
import PyProof.EnumMake
import PyProof.ZipIter
import PyProof.LayNew
import KE.KTurns
import PyProof.Rows.Range3
import KE.KRevSl
import KE.KDictList
import PyProof.Draws
import PyProof.Rows.RuleM_int
import PyProof.Rows.BitMore
import PyProof.NeKinds
import KE.KRevIter
import PyProof.JoinWalk
import KE.KDictSum
import KE.KSortTup
import KE.KTryMore
import PyProof.ExcArgs
import OpenK.KOwn
import PyProof.ExcBaseAll.ValueError
import KE.KLam
import KE.KNestM
import PyProof.Rows.SetFrom
import PyProof.AttrMissHeap
import KE.KDictOf
import PyProof.TupleKey
import PyProof.DictRoadsH
import PyProof.MeetsDict
import KE.KItemsList
import KE.KUnpack
import PySem.Challenge.RW_loomwright_k05_drafts_read_back
set_option Elab.async false
set_option linter.all false
set_option maxRecDepth 100000
set_option maxHeartbeats 4000000
noncomputable section
namespace L2
open PySem
noncomputable def BY (s:Stmt) (j:Nat):Stmt:=match s with
  | .ClassDef _ _ _ body _ _ _ _ _ _ _=>body.getD j (.Pass ⟨0,0,0,0⟩)
  | _=> .Pass ⟨0,0,0,0⟩
noncomputable def Et (s:Stmt):Arguments:=match s with
  | .FunctionDef _ a _ _ _ _ _ _ _ _=>a
  | _=>{ posonlyargs:=[],args:=[],vararg:=none,kwonlyargs:=[],kw_defaults:=[],kwarg:=none,defaults:=[] }
noncomputable def CJ (s:Stmt):List Stmt:=match s with
  | .FunctionDef _ _ b _ _ _ _ _ _ _=>b
  | _=>[]
noncomputable def Ai (s:Stmt):Scope:=match s with
  | .FunctionDef _ _ _ _ _ _ sc _ _ _=>sc
  | _=>{ kind:= .function,names:=[],isGenerator:=false,isCoroutine:=false }
end L2
namespace K05
open PySem
noncomputable def top (i:Nat):Stmt:=PySem.Challenge.pw_loomwright_k05_drafts_read_back.main.body.getD i (.Pass ⟨0,0,0,0⟩)
end K05
namespace HX
open PySem PySem.W PySem.Calls PyProof.Rows
noncomputable def topT (tb:String->Option Builtin) (p:Program) (w:World) (n₀:Nat) (ann:Option Value):Nat->SharedT->Thread->Option SharedT
  | 0,_,_=>none
  | n+1,s,t=>match through t with
    | true=>some s
    | false=>match stepOk n₀ ann t with
      | false=>none
      | true=>match stepT (denote tb) p w s t with
        | some (s',t')=>topT tb p w n₀ ann n s' t'
        | none=>none
theorem topT_of {tb:String->Option Builtin} {p:Program} {w:World} {n₀:Nat} {ann:Option Value}:∀ {n:Nat} {s s':SharedT} {t:Thread},topT tb p w n₀ ann n s t=some s'->topRun tb p w n₀ ann n s.abs t=some s'.abs
  | 0,_,_,_,h=>by cases h
  | n+1,s,s',t,h=>by
    unfold topT at h;unfold topRun;cases ht:through t with
    | true=>rw [ht] at h;cases h;rfl
    | false=>
      rw [ht] at h;cases hk:stepOk n₀ ann t with
      | false=>rw [hk] at h;cases h
      | true=>
        rw [hk] at h;cases hs:stepT (denote tb) p w s t with
        | none=>rw [hs] at h;cases h
        | some x=>
          obtain ⟨s2,t2⟩:=x;rw [hs] at h;dsimp only;rw [stepT_spec hs];exact topT_of h
noncomputable def ofL:List Obj->Nat->BT->BT
  | [],_,t=>t
  | o::r,i,t=>ofL r (i+1) (t.ins i o)
def bootT (P:Params):BT:=ofL (boot_heap P).objs.toList 0 .nil
noncomputable def fn0 (name qual:Str) (a:Arguments) (b:List Stmt) (sc:Scope):FuncData:=
  { name,qualname:=qual,params:=a,body:= .stmts b,scope:=sc,globals:=0,closure:=[],defaults:= .none,kwdefaults:= .none }
theorem left_run {p q:Program} {loose:List Str} {Xt:Shared->Bool} {α:Type} {Yf:Shared->α} {Ya:World->α} {N:Nat} {g0:Bool}
    (e:opening p=plainProg p.main.scope.names) (hN:Nat.ble 600 N=true) (f:∀ s,fenceModules? p s=some s)
    (hb:∀ P:Params,(absHeap (bootT P) 11 {},boot_drawn,(boot_heap P).isNs mainGlobals,(boot_heap P).objs.size,(boot_heap P).nsMap mainGlobals "__annotations__")=(boot_heap P,boot_drawn,true,11,some (.ref 6)))
    (run:∀ (w:World) (os:OsState),∃ s:Shared,topRun treeTable p w 11 (some (.ref 6)) N (⟨bootT w.params,11,{},Array.mk [],boot_drawn,boot_toks,os⟩:SharedT).abs (topStub p)=some s/\((staticsOk (importedModules p.main.body) (boot_heap w.params) s.heap&&namesBound p s.heap&&gensDone s&&laidKept (boot_heap w.params) s.heap),openSeen q loose (importedModules p.main.body) Xt g0 s,Yf s)=(true,openGood q loose,Ya w)):LeftO p q loose Xt Yf Ya N g0:=λ w=>by
  obtain ⟨⟨h,gs,d,k,os⟩,e1,e'⟩:=Option.map_eq_some_iff.mp (boot_open (p:=p) (N:=N) e hN f w);obtain ⟨rfl,rfl,rfl,rfl⟩:h=boot_heap w.params/\gs=Array.mk []/\d=boot_drawn/\k=boot_toks:=by simpa using e'
  have hb':=hb w.params;simp only [Prod.mk.injEq] at hb';obtain ⟨b1,_,b2,b3,b4⟩:=hb';obtain ⟨s,r,l⟩:=run w os;obtain ⟨l1,l2,l3⟩:_/\_/\_:=by simpa only [Prod.mk.injEq] using l
  have b0:(⟨bootT w.params,11,{},Array.mk [],boot_drawn,boot_toks,os⟩:SharedT).abs=⟨boot_heap w.params,Array.mk [],boot_drawn,boot_toks,os⟩:=by
    show (⟨absHeap (bootT w.params) 11 {},_,_,_,_⟩:Shared)=_;rw [b1]
  rw [b0] at r;have t:topFrom treeTable p w N ⟨boot_heap w.params,Array.mk [],boot_drawn,boot_toks,os⟩=some s:=by
    unfold topFrom;dsimp only;rw [b2,b3,b4];show Option.bind (topRun treeTable p w 11 (some (.ref 6)) N ⟨boot_heap w.params,Array.mk [],boot_drawn,boot_toks,os⟩ (topStub p)) _=_;rw [r];show (match staticsOk (importedModules p.main.body) (boot_heap w.params) s.heap&&namesBound p s.heap&&gensDone s&&laidKept (boot_heap w.params) s.heap with | true=>_ | false=>_)=_;rw [l1]
  unfold openEnds;rw [e1];show (topFrom treeTable p w N _).map _=_;rw [t];exact congrArg some (Prod.ext l2 l3)
theorem three {α β γ:Type} {a a':α} {b b':β} {c c':γ} (h:(a,c)=(a',c')) (k:b=b'):(a,b,c)=(a',b',c'):=by
  cases h;cases k;rfl
theorem hb (P:Params):(absHeap (bootT P) 11 {},boot_drawn,(boot_heap P).isNs mainGlobals,(boot_heap P).objs.size,(boot_heap P).nsMap mainGlobals "__annotations__")=(boot_heap P,boot_drawn,true,11,some (.ref 6)):=by kernel_rfl
end HX
namespace K05
open PySem L2 PySem.W PySem.Calls PyProof.Rows
abbrev Ob:=Params->Obj
noncomputable abbrev dE (P:Params) (s:Str) (t:Tok) (v:Value):DictEntry:=⟨PyData.keyHash P s, .str s t,v⟩
noncomputable abbrev dR (P:Params) (s:Str) (t:Tok) (a:Addr):DictEntry:=⟨PyData.keyHash P s, .str s t, .ref a⟩
noncomputable abbrev tu (xs:Array Value):Obj:=⟨.type "tuple",none, .seq xs 0, #[]⟩
noncomputable abbrev di (es:Array DictEntry) (n:Nat):Obj:=⟨.type "dict",none, .dict es n, #[]⟩
noncomputable abbrev f0 (n q:Str) (st:Stmt):FuncData:=HX.fn0 n q (Et st) (CJ st) (Ai st)
noncomputable abbrev fo (n q:Str) (st:Stmt) (m:Str) (t:Tok) (c:Addr):Obj:=⟨.type "function",none, .func (fnOf n q (Et st) (CJ st) (Ai st) .none .none .none (.str m t) none (.ref c) .none), #[]⟩
noncomputable abbrev co (n q:Str) (t:Tok) (l ac nl:Int) (a:Addr) (b:Bool) (r:Addr) (c d e:Value) (k:Int) (t4:Tok):Obj:=⟨.type "code",none, .fields #[.str n t, .str q (t+1), .str "/claim/cut.py" (t+2), .int l 0, .int ac 0, .int 0 0, .int 0 0, .int nl 0, .ref a, .bool b, .int 181 0, .ref r, .none,c,d,e, .int k 0, .int l 0, .str "/claim/cut.py" t4], #[]⟩
noncomputable def o3:Ob:=λ P=>di #[dE P "__name__" 165 (.str "law_loomwright_k05_drafts_read_back" 674),dE P "__doc__" 166 .none,dE P "__package__" 167 .none,dE P "__loader__" 168 (.builtin "__main__.__loader__#opaque"),dE P "__spec__" 169 .none,dR P "__annotations__" 170 6,dR P "__builtins__" 171 4,dE P "__file__" 173 (.str "/claim/cut.py" 172),dE P "__cached__" 174 .none,dE P "MOST_SHAFTS" 188 (.int 16 187),dE P "MOST_TREADLES" 190 (.int 16 189),dE P "MOST_ENDS" 192 (.int 60 191),dE P "MOST_PICKS" 194 (.int 60 193),dR P "LoomError" 214 24,dR P "BadRow" 241 44,dR P "BadWord" 266 63,dR P "BadDraft" 282 75,dE P "FIGURES" 286 (.str "0123456789" 285),dE P "MOST_FIGURES" 288 (.int 3 287),dE P "COLOURS" 290 (.str "abcdefghijklmnopqrstuvwxyz" 289),dR P "is_whole" 297 84,dR P "is_among" 306 91,dR P "is_colour" 313 98,dR P "number_of" 319 103,dR P "number_text" 326 110,dR P "number_texts" 332 115,dR P "numbers_told" 338 120,dR P "words_of" 346 127,dR P "need" 356 134,dR P "is_list" 365 141,dR P "is_rising" 375 148,dR P "are_rising" 381 153,dR P "are_colours" 387 158,dR P "need_draft" 393 163,dR P "Draft" 446 197,dE P "LEAST_TIMES" 450 (.int 2 449),dE P "MOST_TIMES" 452 (.int 60 451),dE P "OPENING" 454 (.str "(" 453),dE P "CLOSING" 456 (.str ")" 455),dR P "times_of" 464 208,dR P "can_stand" 474 215,dR P "taken" 485 222,dR P "spread" 500 229,dR P "as_group" 515 236,dR P "fewest_words" 529 243,dR P "gathered" 540 250,dE P "NONE" 544 (.str "-" 543),dE P "TOGETHER" 546 (.str "+" 545),dR P "tie_words" 553 257,dR P "pick_word" 560 264,dR P "draft_text" 566 269,dR P "words_behind" 576 276,dR P "read_count" 587 283,dR P "rising_words" 599 290,dR P "read_tie" 610 297,dR P "read_items" 621 304,dR P "read_threading" 633 311,dR P "trodden_words" 640 318,dR P "is_pick_word" 649 325,dR P "read_treading" 655 330,dR P "read_colours" 667 337,dR P "read_draft" 673 342,dR P "_law_mixed" 683 349,dR P "_law_same" 689 354,dR P "_law_cells" 695 359,dR P "_law_numbers" 701 364,dR P "_law_draft" 707 369,dR P "_law_copied" 713 374,dR P "_law_spoilt" 721 381,dR P "_law_rows" 727 386,dR P "_law_pick" 733 391,dR P "_law_again" 744 398,dR P "_law_grouped" 757 405,dR P "_law_made" 771 412,dR P "_law_plain" 781 419,dR P "_law_text_good" 787 424,dR P "law" 793 429] 77
noncomputable def o15:Ob:=λ P=>tu #[(.type "ValueError")]
noncomputable def o22:Ob:=λ P=>tu #[]
noncomputable def o23:Ob:=λ P=>di #[dE P "__module__" 204 (.str "loomwright.errors" 195),dE P "__firstlineno__" 208 (.int 6 207),dR P "__static_attributes__" 209 22,dR P "__weakref__" 211 25,dE P "__doc__" 212 .none] 3
noncomputable def o24:Ob:=λ P=>⟨(.type "type"),none,(.cls ⟨"LoomError",[(.type "ValueError")],[(.ref 24),(.type "ValueError"),(.type "Exception"),(.type "BaseException"),(.type "object")],23,"LoomError",true,[],[(.ref 44),(.ref 63),(.ref 75)],false,none,false⟩), #[(some (.ref 15)),none,(some (.str "LoomError" 197)),(some (.str "LoomError" 205)),(some (.builtin "ValueError.__new__")),(some (.bool true))]⟩
noncomputable def o25:Ob:=λ P=>⟨(.type "getset_descriptor"),none,(.fields #[(.str "__weakref__" 210),(.ref 24),(.builtin "ExceptionGroup.__weakref__"), .none]), #[]⟩
noncomputable def o28:Ob:=λ P=>tu #[(.ref 24)]
noncomputable def o35:Ob:=λ P=>tu #[]
noncomputable def o37:Ob:=λ P=>tu #[(.str "self" 230),(.str "row" 231),(.str "word" 232)]
noncomputable def o38:Ob:=λ P=>tu #[]
noncomputable def o40:Ob:=λ P=>co "__init__" "BadRow.__init__" 227 10 3 3 35 true 36 (.ref 37) (.ref 38) (.ref 39) 233 234
noncomputable def o41:Ob:=λ P=>fo "__init__" "BadRow.__init__" (BY (top 6) 0) "loomwright.errors" 195 40
noncomputable def o42:Ob:=λ P=>tu #[(.str "row" 236),(.str "word" 237)]
noncomputable def o43:Ob:=λ P=>di #[dE P "__module__" 222 (.str "loomwright.errors" 195),dE P "__firstlineno__" 226 (.int 8 225),dR P "__init__" 235 41,dR P "__static_attributes__" 238 42,dE P "__doc__" 239 .none] 2
noncomputable def o44:Ob:=λ P=>⟨(.type "type"),none,(.cls ⟨"BadRow",[(.ref 24)],[(.ref 44),(.ref 24),(.type "ValueError"),(.type "Exception"),(.type "BaseException"),(.type "object")],43,"BadRow",true,[],[],false,none,false⟩), #[(some (.ref 28)),none,(some (.str "BadRow" 215)),(some (.str "BadRow" 223)),(some (.builtin "ValueError.__new__")),(some (.bool true))]⟩
noncomputable def o47:Ob:=λ P=>tu #[(.ref 24)]
noncomputable def o54:Ob:=λ P=>tu #[]
noncomputable def o56:Ob:=λ P=>tu #[(.str "self" 257),(.str "place" 258)]
noncomputable def o57:Ob:=λ P=>tu #[]
noncomputable def o59:Ob:=λ P=>co "__init__" "BadWord.__init__" 254 16 2 3 54 true 55 (.ref 56) (.ref 57) (.ref 58) 259 260
noncomputable def o60:Ob:=λ P=>fo "__init__" "BadWord.__init__" (BY (top 7) 0) "loomwright.errors" 195 59
noncomputable def o61:Ob:=λ P=>tu #[(.str "place" 262)]
noncomputable def o62:Ob:=λ P=>di #[dE P "__module__" 249 (.str "loomwright.errors" 195),dE P "__firstlineno__" 253 (.int 14 252),dR P "__init__" 261 60,dR P "__static_attributes__" 263 61,dE P "__doc__" 264 .none] 2
noncomputable def o63:Ob:=λ P=>⟨(.type "type"),none,(.cls ⟨"BadWord",[(.ref 24)],[(.ref 63),(.ref 24),(.type "ValueError"),(.type "Exception"),(.type "BaseException"),(.type "object")],62,"BadWord",true,[],[],false,none,false⟩), #[(some (.ref 47)),none,(some (.str "BadWord" 242)),(some (.str "BadWord" 250)),(some (.builtin "ValueError.__new__")),(some (.bool true))]⟩
noncomputable def o66:Ob:=λ P=>tu #[(.ref 24)]
noncomputable def o73:Ob:=λ P=>tu #[]
noncomputable def o74:Ob:=λ P=>di #[dE P "__module__" 274 (.str "loomwright.errors" 195),dE P "__firstlineno__" 278 (.int 19 277),dR P "__static_attributes__" 279 73,dE P "__doc__" 280 .none] 2
noncomputable def o75:Ob:=λ P=>⟨(.type "type"),none,(.cls ⟨"BadDraft",[(.ref 24)],[(.ref 75),(.ref 24),(.type "ValueError"),(.type "Exception"),(.type "BaseException"),(.type "object")],74,"BadDraft",true,[],[],false,none,false⟩), #[(some (.ref 66)),none,(some (.str "BadDraft" 267)),(some (.str "BadDraft" 275)),(some (.builtin "ValueError.__new__")),(some (.bool true))]⟩
noncomputable def o78:Ob:=λ P=>tu #[]
noncomputable def o80:Ob:=λ P=>tu #[(.str "thing" 294)]
noncomputable def o81:Ob:=λ P=>tu #[]
noncomputable def o83:Ob:=λ P=>co "is_whole" "is_whole" 291 25 1 3 78 true 79 (.ref 80) (.ref 81) (.ref 82) 295 296
noncomputable def o84:Ob:=λ P=>fo "is_whole" "is_whole" (top 13) "loomwright.words" 283 83
noncomputable def o85:Ob:=λ P=>tu #[]
noncomputable def o87:Ob:=λ P=>tu #[(.str "thing" 301),(.str "least" 302),(.str "most" 303)]
noncomputable def o88:Ob:=λ P=>tu #[]
noncomputable def o90:Ob:=λ P=>co "is_among" "is_among" 298 27 3 3 85 true 86 (.ref 87) (.ref 88) (.ref 89) 304 305
noncomputable def o91:Ob:=λ P=>fo "is_among" "is_among" (top 14) "loomwright.words" 283 90
noncomputable def o92:Ob:=λ P=>tu #[]
noncomputable def o94:Ob:=λ P=>tu #[(.str "thing" 310)]
noncomputable def o95:Ob:=λ P=>tu #[]
noncomputable def o97:Ob:=λ P=>co "is_colour" "is_colour" 307 29 1 3 92 true 93 (.ref 94) (.ref 95) (.ref 96) 311 312
noncomputable def o98:Ob:=λ P=>fo "is_colour" "is_colour" (top 15) "loomwright.words" 283 97
noncomputable def o99:Ob:=λ P=>tu #[]
noncomputable def UH:Ob:=λ P=>co "number_of" "number_of" 314 31 1 3 99 true 100 .none .none (.ref 101) 317 318
noncomputable def SQ:Ob:=λ P=>fo "number_of" "number_of" (top 16) "loomwright.words" 283 102
noncomputable def RY:Ob:=λ P=>tu #[]
noncomputable def R6:Ob:=λ P=>tu #[(.str "number" 323)]
noncomputable def So:Ob:=λ P=>tu #[]
noncomputable def Su:Ob:=λ P=>co "number_text" "number_text" 320 39 1 3 104 true 105 (.ref 106) (.ref 107) (.ref 108) 324 325
noncomputable def Vt:Ob:=λ P=>fo "number_text" "number_text" (top 17) "loomwright.words" 283 109
noncomputable def RZ:Ob:=λ P=>tu #[]
noncomputable def TZ:Ob:=λ P=>co "number_texts" "number_texts" 327 41 1 3 111 true 112 .none .none (.ref 113) 330 331
noncomputable def Sf:Ob:=λ P=>fo "number_texts" "number_texts" (top 18) "loomwright.words" 283 114
noncomputable def Ws:Ob:=λ P=>tu #[]
noncomputable def Wk:Ob:=λ P=>co "numbers_told" "numbers_told" 333 43 1 3 116 true 117 .none .none (.ref 118) 336 337
noncomputable def RS:Ob:=λ P=>fo "numbers_told" "numbers_told" (top 19) "loomwright.words" 283 119
noncomputable def Vs:Ob:=λ P=>tu #[]
noncomputable def Wz:Ob:=λ P=>tu #[(.str "row" 342),(.str "words" 343)]
noncomputable def V1:Ob:=λ P=>tu #[]
noncomputable def TH:Ob:=λ P=>co "words_of" "words_of" 339 45 1 3 121 true 122 (.ref 123) (.ref 124) (.ref 125) 344 345
noncomputable def Se:Ob:=λ P=>fo "words_of" "words_of" (top 20) "loomwright.words" 283 126
noncomputable def VS:Ob:=λ P=>tu #[]
noncomputable def TU:Ob:=λ P=>tu #[(.str "holds" 352),(.str "words" 353)]
noncomputable def SY:Ob:=λ P=>tu #[]
noncomputable def Uy:Ob:=λ P=>co "need" "need" 349 53 2 3 128 true 129 (.ref 130) (.ref 131) (.ref 132) 354 355
noncomputable def Tv:Ob:=λ P=>fo "need" "need" (top 22) "loomwright.draft" 347 133
noncomputable def RU:Ob:=λ P=>tu #[]
noncomputable def Wp:Ob:=λ P=>tu #[(.str "thing" 360),(.str "least" 361),(.str "most" 362)]
noncomputable def WA:Ob:=λ P=>tu #[]
noncomputable def WU:Ob:=λ P=>co "is_list" "is_list" 357 56 3 3 135 true 136 (.ref 137) (.ref 138) (.ref 139) 363 364
noncomputable def VT:Ob:=λ P=>fo "is_list" "is_list" (top 23) "loomwright.draft" 347 140
noncomputable def Td:Ob:=λ P=>tu #[]
noncomputable def UD:Ob:=λ P=>tu #[(.str "thing" 369),(.str "most" 370),(.str "last" 371),(.str "number" 372)]
noncomputable def RX:Ob:=λ P=>tu #[]
noncomputable def WM:Ob:=λ P=>co "is_rising" "is_rising" 366 58 2 3 142 true 143 (.ref 144) (.ref 145) (.ref 146) 373 374
noncomputable def UT:Ob:=λ P=>fo "is_rising" "is_rising" (top 24) "loomwright.draft" 347 147
noncomputable def SD:Ob:=λ P=>tu #[]
noncomputable def Sg:Ob:=λ P=>co "are_rising" "are_rising" 376 67 2 3 149 true 150 .none .none (.ref 151) 379 380
noncomputable def WQ:Ob:=λ P=>fo "are_rising" "are_rising" (top 25) "loomwright.draft" 347 152
noncomputable def Sk:Ob:=λ P=>tu #[]
noncomputable def T8:Ob:=λ P=>co "are_colours" "are_colours" 382 69 2 3 154 true 155 .none .none (.ref 156) 385 386
noncomputable def SS:Ob:=λ P=>fo "are_colours" "are_colours" (top 26) "loomwright.draft" 347 157
noncomputable def Va:Ob:=λ P=>tu #[]
noncomputable def Sb:Ob:=λ P=>co "need_draft" "need_draft" 388 71 7 3 159 true 160 .none .none (.ref 161) 391 392
noncomputable def T1:Ob:=λ P=>fo "need_draft" "need_draft" (top 27) "loomwright.draft" 347 162
noncomputable def US:Ob:=λ P=>tu #[]
noncomputable def T5:Ob:=λ P=>co "__init__" "Draft.__init__" 406 84 8 3 171 true 172 .none .none (.ref 173) 409 410
noncomputable def VU:Ob:=λ P=>fo "__init__" "Draft.__init__" (BY (top 28) 0) "loomwright.draft" 347 174
noncomputable def WE:Ob:=λ P=>tu #[]
noncomputable def Uz:Ob:=λ P=>co "told" "Draft.told" 412 94 1 3 176 true 177 .none .none (.ref 178) 415 416
noncomputable def Tt:Ob:=λ P=>fo "told" "Draft.told" (BY (top 28) 1) "loomwright.draft" 347 179
noncomputable def Th:Ob:=λ P=>tu #[]
noncomputable def VE:Ob:=λ P=>tu #[(.str "self" 421)]
noncomputable def Tu:Ob:=λ P=>tu #[]
noncomputable def U0:Ob:=λ P=>co "ends" "Draft.ends" 418 97 1 3 181 true 182 (.ref 183) (.ref 184) (.ref 185) 422 423
noncomputable def SX:Ob:=λ P=>fo "ends" "Draft.ends" (BY (top 28) 2) "loomwright.draft" 347 186
noncomputable def Ul:Ob:=λ P=>tu #[]
noncomputable def WC:Ob:=λ P=>tu #[(.str "self" 428)]
noncomputable def Ww:Ob:=λ P=>tu #[]
noncomputable def RT:Ob:=λ P=>co "picks" "Draft.picks" 425 100 1 3 188 true 189 (.ref 190) (.ref 191) (.ref 192) 429 430
noncomputable def V3:Ob:=λ P=>fo "picks" "Draft.picks" (BY (top 28) 3) "loomwright.draft" 347 193
noncomputable def WR:Ob:=λ P=>tu #[(.str "shafts" 432),(.str "threading" 433),(.str "ties" 434),(.str "treading" 435),(.str "treadles" 436),(.str "warp" 437),(.str "weft" 438)]
noncomputable def Wg:Ob:=λ P=>di #[dE P "__module__" 401 (.str "loomwright.draft" 347),dE P "__firstlineno__" 405 (.int 82 404),dR P "__init__" 411 175,dR P "told" 417 180,dR P "ends" 424 187,dR P "picks" 431 194,dR P "__static_attributes__" 439 195,dR P "__dict__" 441 198,dR P "__weakref__" 443 199,dE P "__doc__" 444 .none] 4
noncomputable def T9:Ob:=λ P=>⟨(.type "type"),none,(.cls ⟨"Draft",[(.type "object")],[(.ref 197),(.type "object")],196,"Draft",true,[],[],false,none,false⟩), #[none,none,(some (.str "Draft" 394)),(some (.str "Draft" 402)),(some (.builtin "object.__new__")),(some (.bool true))]⟩
noncomputable def Sv:Ob:=λ P=>⟨(.type "getset_descriptor"),none,(.fields #[(.str "__dict__" 440),(.ref 197),(.builtin "function.__dict__"),(.builtin "function.__dict__#set")]), #[]⟩
noncomputable def Vj:Ob:=λ P=>⟨(.type "getset_descriptor"),none,(.fields #[(.str "__weakref__" 442),(.ref 197),(.builtin "ExceptionGroup.__weakref__"), .none]), #[]⟩
noncomputable def WV:Ob:=λ P=>tu #[]
noncomputable def Ug:Ob:=λ P=>tu #[(.str "word" 460),(.str "times" 461)]
noncomputable def Uq:Ob:=λ P=>tu #[]
noncomputable def WH:Ob:=λ P=>co "times_of" "times_of" 457 107 1 3 202 true 203 (.ref 204) (.ref 205) (.ref 206) 462 463
noncomputable def TK:Ob:=λ P=>fo "times_of" "times_of" (top 34) "loomwright.groups" 447 207
noncomputable def WJ:Ob:=λ P=>tu #[]
noncomputable def UX:Ob:=λ P=>tu #[(.str "word" 468),(.str "held" 469),(.str "times" 470),(.str "fits" 471)]
noncomputable def Sj:Ob:=λ P=>tu #[]
noncomputable def S6:Ob:=λ P=>co "can_stand" "can_stand" 465 112 4 3 209 true 210 (.ref 211) (.ref 212) (.ref 213) 472 473
noncomputable def UA:Ob:=λ P=>fo "can_stand" "can_stand" (top 35) "loomwright.groups" 447 214
noncomputable def UQ:Ob:=λ P=>tu #[]
noncomputable def VO:Ob:=λ P=>tu #[(.str "word" 478),(.str "held" 479),(.str "times" 480),(.str "inner" 481),(.str "many" 482)]
noncomputable def Us:Ob:=λ P=>tu #[]
noncomputable def Vc:Ob:=λ P=>co "taken" "taken" 475 118 3 3 216 true 217 (.ref 218) (.ref 219) (.ref 220) 483 484
noncomputable def Uk:Ob:=λ P=>fo "taken" "taken" (top 36) "loomwright.groups" 447 221
noncomputable def Tx:Ob:=λ P=>tu #[]
noncomputable def Ss:Ob:=λ P=>tu #[(.str "words" 489),(.str "most" 490),(.str "fits" 491),(.str "row" 492),(.str "held" 493),(.str "times" 494),(.str "count" 495),(.str "place" 496),(.str "word" 497)]
noncomputable def Vg:Ob:=λ P=>tu #[]
noncomputable def T6:Ob:=λ P=>co "spread" "spread" 486 130 3 3 223 true 224 (.ref 225) (.ref 226) (.ref 227) 498 499
noncomputable def Ux:Ob:=λ P=>fo "spread" "spread" (top 37) "loomwright.groups" 447 228
noncomputable def Sh:Ob:=λ P=>tu #[]
noncomputable def TF:Ob:=λ P=>tu #[(.str "items" 504),(.str "first" 505),(.str "behind" 506),(.str "told" 507),(.str "length" 508),(.str "best" 509),(.str "part" 510),(.str "times" 511),(.str "words" 512)]
noncomputable def Vu:Ob:=λ P=>tu #[]
noncomputable def TY:Ob:=λ P=>co "as_group" "as_group" 501 144 4 3 230 true 231 (.ref 232) (.ref 233) (.ref 234) 513 514
noncomputable def T7:Ob:=λ P=>fo "as_group" "as_group" (top 38) "loomwright.groups" 447 235
noncomputable def Vf:Ob:=λ P=>tu #[]
noncomputable def SF:Ob:=λ P=>tu #[(.str "items" 519),(.str "first" 520),(.str "behind" 521),(.str "told" 522),(.str "best" 523),(.str "middle" 524),(.str "ahead" 525),(.str "rest" 526)]
noncomputable def UJ:Ob:=λ P=>tu #[]
noncomputable def U7:Ob:=λ P=>co "fewest_words" "fewest_words" 516 157 4 3 237 true 238 (.ref 239) (.ref 240) (.ref 241) 527 528
noncomputable def S4:Ob:=λ P=>fo "fewest_words" "fewest_words" (top 39) "loomwright.groups" 447 242
noncomputable def WT:Ob:=λ P=>tu #[]
noncomputable def Vd:Ob:=λ P=>tu #[(.str "items" 533),(.str "row" 534),(.str "told" 535),(.str "length" 536),(.str "first" 537)]
noncomputable def Tq:Ob:=λ P=>tu #[]
noncomputable def Tw:Ob:=λ P=>co "gathered" "gathered" 530 167 1 3 244 true 245 (.ref 246) (.ref 247) (.ref 248) 538 539
noncomputable def Wn:Ob:=λ P=>fo "gathered" "gathered" (top 40) "loomwright.groups" 447 249
noncomputable def V0:Ob:=λ P=>tu #[]
noncomputable def Ud:Ob:=λ P=>tu #[(.str "shafts" 550)]
noncomputable def V7:Ob:=λ P=>tu #[]
noncomputable def Ur:Ob:=λ P=>co "tie_words" "tie_words" 547 177 1 3 251 true 252 (.ref 253) (.ref 254) (.ref 255) 551 552
noncomputable def VD:Ob:=λ P=>fo "tie_words" "tie_words" (top 44) "loomwright.drafttext" 541 256
noncomputable def SV:Ob:=λ P=>tu #[]
noncomputable def WD:Ob:=λ P=>tu #[(.str "treadles" 557)]
noncomputable def VG:Ob:=λ P=>tu #[]
noncomputable def S7:Ob:=λ P=>co "pick_word" "pick_word" 554 179 1 3 258 true 259 (.ref 260) (.ref 261) (.ref 262) 558 559
noncomputable def U9:Ob:=λ P=>fo "pick_word" "pick_word" (top 45) "loomwright.drafttext" 541 263
noncomputable def V9:Ob:=λ P=>tu #[]
noncomputable def Wd:Ob:=λ P=>co "draft_text" "draft_text" 561 181 1 3 265 true 266 .none .none (.ref 267) 564 565
noncomputable def Sl:Ob:=λ P=>fo "draft_text" "draft_text" (top 46) "loomwright.drafttext" 541 268
noncomputable def We:Ob:=λ P=>tu #[]
noncomputable def Wh:Ob:=λ P=>tu #[(.str "rows" 570),(.str "number" 571),(.str "name" 572),(.str "words" 573)]
noncomputable def Vi:Ob:=λ P=>tu #[]
noncomputable def Vk:Ob:=λ P=>co "words_behind" "words_behind" 567 189 3 3 270 true 271 (.ref 272) (.ref 273) (.ref 274) 574 575
noncomputable def Tr:Ob:=λ P=>fo "words_behind" "words_behind" (top 47) "loomwright.drafttext" 541 275
noncomputable def TL:Ob:=λ P=>tu #[]
noncomputable def Sy:Ob:=λ P=>tu #[(.str "rows" 580),(.str "number" 581),(.str "name" 582),(.str "most" 583),(.str "words" 584)]
noncomputable def UC:Ob:=λ P=>tu #[]
noncomputable def SL:Ob:=λ P=>co "read_count" "read_count" 577 196 4 3 277 true 278 (.ref 279) (.ref 280) (.ref 281) 585 586
noncomputable def S5:Ob:=λ P=>fo "read_count" "read_count" (top 48) "loomwright.drafttext" 541 282
noncomputable def Tl:Ob:=λ P=>tu #[]
noncomputable def Ta:Ob:=λ P=>tu #[(.str "words" 591),(.str "most" 592),(.str "last" 593),(.str "many" 594),(.str "word" 595),(.str "number" 596)]
noncomputable def S8:Ob:=λ P=>tu #[]
noncomputable def U8:Ob:=λ P=>co "rising_words" "rising_words" 588 203 2 3 284 true 285 (.ref 286) (.ref 287) (.ref 288) 597 598
noncomputable def Wm:Ob:=λ P=>fo "rising_words" "rising_words" (top 49) "loomwright.drafttext" 541 289
noncomputable def VW:Ob:=λ P=>tu #[]
noncomputable def VR:Ob:=λ P=>tu #[(.str "rows" 603),(.str "number" 604),(.str "shafts" 605),(.str "words" 606),(.str "stand" 607)]
noncomputable def Ui:Ob:=λ P=>tu #[]
noncomputable def Uj:Ob:=λ P=>co "read_tie" "read_tie" 600 211 3 3 291 true 292 (.ref 293) (.ref 294) (.ref 295) 608 609
noncomputable def Uh:Ob:=λ P=>fo "read_tie" "read_tie" (top 50) "loomwright.drafttext" 541 296
noncomputable def Sa:Ob:=λ P=>tu #[]
noncomputable def SG:Ob:=λ P=>tu #[(.str "words" 614),(.str "number" 615),(.str "most" 616),(.str "fits" 617),(.str "error" 618)]
noncomputable def Wt:Ob:=λ P=>tu #[]
noncomputable def UI:Ob:=λ P=>co "read_items" "read_items" 611 219 4 3 298 true 299 (.ref 300) (.ref 301) (.ref 302) 619 620
noncomputable def R0:Ob:=λ P=>fo "read_items" "read_items" (top 51) "loomwright.drafttext" 541 303
noncomputable def SJ:Ob:=λ P=>tu #[]
noncomputable def Ue:Ob:=λ P=>tu #[(.str "rows" 625),(.str "number" 626),(.str "shafts" 627),(.str "words" 628),(.str "items" 629)]
noncomputable def Wu:Ob:=λ P=>tu #[(.str "shafts" 630)]
noncomputable def Wi:Ob:=λ P=>co "read_threading" "read_threading" 622 224 3 3 305 true 306 (.ref 307) (.ref 308) (.ref 309) 631 632
noncomputable def VI:Ob:=λ P=>fo "read_threading" "read_threading" (top 52) "loomwright.drafttext" 541 310
noncomputable def Tg:Ob:=λ P=>tu #[]
noncomputable def VN:Ob:=λ P=>tu #[(.str "word" 637)]
noncomputable def Vr:Ob:=λ P=>tu #[]
noncomputable def Tc:Ob:=λ P=>co "trodden_words" "trodden_words" 634 228 1 3 312 true 313 (.ref 314) (.ref 315) (.ref 316) 638 639
noncomputable def Tz:Ob:=λ P=>fo "trodden_words" "trodden_words" (top 53) "loomwright.drafttext" 541 317
noncomputable def Ub:Ob:=λ P=>tu #[]
noncomputable def VY:Ob:=λ P=>tu #[(.str "word" 644),(.str "treadles" 645),(.str "words" 646)]
noncomputable def V4:Ob:=λ P=>tu #[]
noncomputable def Uw:Ob:=λ P=>co "is_pick_word" "is_pick_word" 641 230 2 3 319 true 320 (.ref 321) (.ref 322) (.ref 323) 647 648
noncomputable def Ua:Ob:=λ P=>fo "is_pick_word" "is_pick_word" (top 54) "loomwright.drafttext" 541 324
noncomputable def Uo:Ob:=λ P=>tu #[]
noncomputable def Sn:Ob:=λ P=>co "read_treading" "read_treading" 650 233 3 3 326 true 327 .none .none (.ref 328) 653 654
noncomputable def UN:Ob:=λ P=>fo "read_treading" "read_treading" (top 55) "loomwright.drafttext" 541 329
noncomputable def VB:Ob:=λ P=>tu #[]
noncomputable def Vp:Ob:=λ P=>tu #[(.str "rows" 659),(.str "number" 660),(.str "name" 661),(.str "many" 662),(.str "words" 663),(.str "colours" 664)]
noncomputable def Tf:Ob:=λ P=>tu #[]
noncomputable def Vm:Ob:=λ P=>co "read_colours" "read_colours" 656 237 4 3 331 true 332 (.ref 333) (.ref 334) (.ref 335) 665 666
noncomputable def WS:Ob:=λ P=>fo "read_colours" "read_colours" (top 56) "loomwright.drafttext" 541 336
noncomputable def Wl:Ob:=λ P=>tu #[]
noncomputable def Vz:Ob:=λ P=>co "read_draft" "read_draft" 668 243 1 3 338 true 339 .none .none (.ref 340) 671 672
noncomputable def Wo:Ob:=λ P=>fo "read_draft" "read_draft" (top 57) "loomwright.drafttext" 541 341
noncomputable def Wj:Ob:=λ P=>tu #[]
noncomputable def Vn:Ob:=λ P=>tu #[(.str "_law_cell" 679),(.str "_law_k" 680)]
noncomputable def RW:Ob:=λ P=>tu #[]
noncomputable def SM:Ob:=λ P=>co "_law_mixed" "_law_mixed" 676 258 2 3 343 true 344 (.ref 345) (.ref 346) (.ref 347) 681 682
noncomputable def WL:Ob:=λ P=>fo "_law_mixed" "_law_mixed" (top 59) "law_loomwright_k05_drafts_read_back" 674 348
noncomputable def UK:Ob:=λ P=>tu #[]
noncomputable def Uv:Ob:=λ P=>co "_law_same" "_law_same" 684 261 2 3 350 true 351 .none .none (.ref 352) 687 688
noncomputable def TN:Ob:=λ P=>fo "_law_same" "_law_same" (top 60) "law_loomwright_k05_drafts_read_back" 674 353
noncomputable def WP:Ob:=λ P=>tu #[]
noncomputable def VM:Ob:=λ P=>co "_law_cells" "_law_cells" 690 267 2 3 355 true 356 .none .none (.ref 357) 693 694
noncomputable def VL:Ob:=λ P=>fo "_law_cells" "_law_cells" (top 61) "law_loomwright_k05_drafts_read_back" 674 358
noncomputable def UO:Ob:=λ P=>tu #[]
noncomputable def VA:Ob:=λ P=>co "_law_numbers" "_law_numbers" 696 270 2 3 360 true 361 .none .none (.ref 362) 699 700
noncomputable def Sr:Ob:=λ P=>fo "_law_numbers" "_law_numbers" (top 62) "law_loomwright_k05_drafts_read_back" 674 363
noncomputable def TJ:Ob:=λ P=>tu #[]
noncomputable def SE:Ob:=λ P=>co "_law_draft" "_law_draft" 702 272 2 3 365 true 366 .none .none (.ref 367) 705 706
noncomputable def Vb:Ob:=λ P=>fo "_law_draft" "_law_draft" (top 63) "law_loomwright_k05_drafts_read_back" 674 368
noncomputable def UV:Ob:=λ P=>tu #[]
noncomputable def SI:Ob:=λ P=>co "_law_copied" "_law_copied" 708 286 1 3 370 true 371 .none .none (.ref 372) 711 712
noncomputable def Sx:Ob:=λ P=>fo "_law_copied" "_law_copied" (top 64) "law_loomwright_k05_drafts_read_back" 674 373
noncomputable def RP:Ob:=λ P=>tu #[]
noncomputable def SR:Ob:=λ P=>tu #[(.str "_law_told" 717),(.str "_law_one" 718)]
noncomputable def TQ:Ob:=λ P=>tu #[]
noncomputable def TX:Ob:=λ P=>co "_law_spoilt" "_law_spoilt" 714 292 1 3 375 true 376 (.ref 377) (.ref 378) (.ref 379) 719 720
noncomputable def WK:Ob:=λ P=>fo "_law_spoilt" "_law_spoilt" (top 65) "law_loomwright_k05_drafts_read_back" 674 380
noncomputable def Vh:Ob:=λ P=>tu #[]
noncomputable def TR:Ob:=λ P=>co "_law_rows" "_law_rows" 722 298 2 3 382 true 383 .none .none (.ref 384) 725 726
noncomputable def Wq:Ob:=λ P=>fo "_law_rows" "_law_rows" (top 66) "law_loomwright_k05_drafts_read_back" 674 385
noncomputable def T4:Ob:=λ P=>tu #[]
noncomputable def V8:Ob:=λ P=>co "_law_pick" "_law_pick" 728 307 1 3 387 true 388 .none .none (.ref 389) 731 732
noncomputable def VF:Ob:=λ P=>fo "_law_pick" "_law_pick" (top 67) "law_loomwright_k05_drafts_read_back" 674 390
noncomputable def UF:Ob:=λ P=>tu #[]
noncomputable def Vl:Ob:=λ P=>tu #[(.str "_law_items" 737),(.str "_law_at" 738),(.str "_law_size" 739),(.str "_law_times" 740),(.str "_law_here" 741)]
noncomputable def SA:Ob:=λ P=>tu #[]
noncomputable def Wr:Ob:=λ P=>co "_law_again" "_law_again" 734 309 4 3 392 true 393 (.ref 394) (.ref 395) (.ref 396) 742 743
noncomputable def VJ:Ob:=λ P=>fo "_law_again" "_law_again" (top 68) "law_loomwright_k05_drafts_read_back" 674 397
noncomputable def Sw:Ob:=λ P=>tu #[]
noncomputable def RV:Ob:=λ P=>tu #[(.str "_law_items" 748),(.str "_law_number" 749),(.str "_law_half" 750),(.str "_law_words" 751),(.str "_law_at" 752),(.str "_law_size" 753),(.str "_law_times" 754)]
noncomputable def Wx:Ob:=λ P=>tu #[]
noncomputable def Vq:Ob:=λ P=>co "_law_grouped" "_law_grouped" 745 312 2 3 399 true 400 (.ref 401) (.ref 402) (.ref 403) 755 756
noncomputable def Sz:Ob:=λ P=>fo "_law_grouped" "_law_grouped" (top 69) "law_loomwright_k05_drafts_read_back" 674 404
noncomputable def SO:Ob:=λ P=>tu #[]
noncomputable def S2:Ob:=λ P=>tu #[(.str "_law_parts" 761),(.str "_law_shafts" 762),(.str "_law_treadles" 763),(.str "_law_threading" 764),(.str "_law_ties" 765),(.str "_law_treading" 766),(.str "_law_warp" 767),(.str "_law_weft" 768)]
noncomputable def V5:Ob:=λ P=>tu #[]
noncomputable def WB:Ob:=λ P=>co "_law_made" "_law_made" 758 331 1 3 406 true 407 (.ref 408) (.ref 409) (.ref 410) 769 770
noncomputable def T2:Ob:=λ P=>fo "_law_made" "_law_made" (top 70) "law_loomwright_k05_drafts_read_back" 674 411
noncomputable def VQ:Ob:=λ P=>tu #[]
noncomputable def SN:Ob:=λ P=>tu #[(.str "_law_rows_here" 775),(.str "_law_found" 776),(.str "_law_row" 777),(.str "_law_words" 778)]
noncomputable def Vv:Ob:=λ P=>tu #[]
noncomputable def SZ:Ob:=λ P=>co "_law_plain" "_law_plain" 772 334 1 3 413 true 414 (.ref 415) (.ref 416) (.ref 417) 779 780
noncomputable def Sq:Ob:=λ P=>fo "_law_plain" "_law_plain" (top 71) "law_loomwright_k05_drafts_read_back" 674 418
noncomputable def Wc:Ob:=λ P=>tu #[]
noncomputable def Wv:Ob:=λ P=>co "_law_text_good" "_law_text_good" 782 342 2 3 420 true 421 .none .none (.ref 422) 785 786
noncomputable def UY:Ob:=λ P=>fo "_law_text_good" "_law_text_good" (top 72) "law_loomwright_k05_drafts_read_back" 674 423
noncomputable def S0:Ob:=λ P=>tu #[]
noncomputable def Tp:Ob:=λ P=>co "law" "law" 788 355 1 3 425 true 426 .none .none (.ref 427) 791 792
noncomputable def U5:Ob:=λ P=>fo "law" "law" (top 73) "law_loomwright_k05_drafts_read_back" 674 428
noncomputable def Xj (P:Params):List Obj:=T2 P::VQ P::SN P::Vv P::SZ P::Sq P::Wc P::Wv P::UY P::S0 P::Tp P::U5 P::[]
noncomputable def W1 (P:Params):List Obj:=SA P::Wr P::VJ P::Sw P::RV P::Wx P::Vq P::Sz P::SO P::S2 P::V5 P::WB P::Xj P
noncomputable def Xc (P:Params):List Obj:=SR P::TQ P::TX P::WK P::Vh P::TR P::Wq P::T4 P::V8 P::VF P::UF P::Vl P::W1 P
noncomputable def Xo (P:Params):List Obj:=VM P::VL P::UO P::VA P::Sr P::TJ P::SE P::Vb P::UV P::SI P::Sx P::RP P::Xc P
noncomputable def Xe (P:Params):List Obj:=Wl P::Vz P::Wo P::Wj P::Vn P::RW P::SM P::WL P::UK P::Uv P::TN P::WP P::Xo P
noncomputable def Xp (P:Params):List Obj:=VY P::V4 P::Uw P::Ua P::Uo P::Sn P::UN P::VB P::Vp P::Tf P::Vm P::WS P::Xe P
noncomputable def W5 (P:Params):List Obj:=R0 P::SJ P::Ue P::Wu P::Wi P::VI P::Tg P::VN P::Vr P::Tc P::Tz P::Ub P::Xp P
noncomputable def Xa (P:Params):List Obj:=S8 P::U8 P::Wm P::VW P::VR P::Ui P::Uj P::Uh P::Sa P::SG P::Wt P::UI P::W5 P
noncomputable def W2 (P:Params):List Obj:=We P::Wh P::Vi P::Vk P::Tr P::TL P::Sy P::UC P::SL P::S5 P::Tl P::Ta P::Xa P
noncomputable def Xk (P:Params):List Obj:=Ud P::V7 P::Ur P::VD P::SV P::WD P::VG P::S7 P::U9 P::V9 P::Wd P::Sl P::W2 P
noncomputable def W8 (P:Params):List Obj:=T7 P::Vf P::SF P::UJ P::U7 P::S4 P::WT P::Vd P::Tq P::Tw P::Wn P::V0 P::Xk P
noncomputable def Xi (P:Params):List Obj:=Us P::Vc P::Uk P::Tx P::Ss P::Vg P::T6 P::Ux P::Sh P::TF P::Vu P::TY P::W8 P
noncomputable def ob9 (P:Params):List Obj:=WV P::Ug P::Uq P::WH P::TK P::WJ P::UX P::Sj P::S6 P::UA P::UQ P::VO P::Xi P
noncomputable def ob8 (P:Params):List Obj:=U0 P::SX P::Ul P::WC P::Ww P::RT P::V3 P::WR P::Wg P::T9 P::Sv P::Vj P::ob9 P
noncomputable def ob7 (P:Params):List Obj:=Va P::Sb P::T1 P::US P::T5 P::VU P::WE P::Uz P::Tt P::Th P::VE P::Tu P::ob8 P
noncomputable def ob6 (P:Params):List Obj:=VT P::Td P::UD P::RX P::WM P::UT P::SD P::Sg P::WQ P::Sk P::T8 P::SS P::ob7 P
noncomputable def ob5 (P:Params):List Obj:=V1 P::TH P::Se P::VS P::TU P::SY P::Uy P::Tv P::RU P::Wp P::WA P::WU P::ob6 P
noncomputable def ob4 (P:Params):List Obj:=R6 P::So P::Su P::Vt P::RZ P::TZ P::Sf P::Ws P::Wk P::RS P::Vs P::Wz P::ob5 P
noncomputable def ob3 (P:Params):List Obj:=o88 P::o90 P::o91 P::o92 P::o94 P::o95 P::o97 P::o98 P::o99 P::UH P::SQ P::RY P::ob4 P
noncomputable def ob2 (P:Params):List Obj:=o63 P::o66 P::o73 P::o74 P::o75 P::o78 P::o80 P::o81 P::o83 P::o84 P::o85 P::o87 P::ob3 P
noncomputable def ob1 (P:Params):List Obj:=o41 P::o42 P::o43 P::o44 P::o47 P::o54 P::o56 P::o57 P::o59 P::o60 P::o61 P::o62 P::ob2 P
def ob0 (P:Params):List Obj:=boot_o_2 P::o3 P::o15 P::o22 P::o23 P::o24 P::o25 P::o28 P::o35 P::o37 P::o38 P::o40 P::ob1 P
def frag (P:Params):Frag:=(nat_lit 2,boot_o_2 P)::(nat_lit 3,o3 P)::(nat_lit 15,o15 P)::(nat_lit 22,o22 P)::(nat_lit 23,o23 P)::(nat_lit 24,o24 P)::(nat_lit 25,o25 P)::(nat_lit 28,o28 P)::(nat_lit 35,o35 P)::(nat_lit 37,o37 P)::(nat_lit 38,o38 P)::(nat_lit 40,o40 P)::(nat_lit 41,o41 P)::(nat_lit 42,o42 P)::(nat_lit 43,o43 P)::(nat_lit 44,o44 P)::(nat_lit 47,o47 P)::(nat_lit 54,o54 P)::(nat_lit 56,o56 P)::(nat_lit 57,o57 P)::(nat_lit 59,o59 P)::(nat_lit 60,o60 P)::(nat_lit 61,o61 P)::(nat_lit 62,o62 P)::(nat_lit 63,o63 P)::(nat_lit 66,o66 P)::(nat_lit 73,o73 P)::(nat_lit 74,o74 P)::(nat_lit 75,o75 P)::(nat_lit 78,o78 P)::(nat_lit 80,o80 P)::(nat_lit 81,o81 P)::(nat_lit 83,o83 P)::(nat_lit 84,o84 P)::(nat_lit 85,o85 P)::(nat_lit 87,o87 P)::(nat_lit 88,o88 P)::(nat_lit 90,o90 P)::(nat_lit 91,o91 P)::(nat_lit 92,o92 P)::(nat_lit 94,o94 P)::(nat_lit 95,o95 P)::(nat_lit 97,o97 P)::(nat_lit 98,o98 P)::(nat_lit 99,o99 P)::(nat_lit 102,UH P)::(nat_lit 103,SQ P)::(nat_lit 104,RY P)::(nat_lit 106,R6 P)::(nat_lit 107,So P)::(nat_lit 109,Su P)::(nat_lit 110,Vt P)::(nat_lit 111,RZ P)::(nat_lit 114,TZ P)::(nat_lit 115,Sf P)::(nat_lit 116,Ws P)::(nat_lit 119,Wk P)::(nat_lit 120,RS P)::(nat_lit 121,Vs P)::(nat_lit 123,Wz P)::(nat_lit 124,V1 P)::(nat_lit 126,TH P)::(nat_lit 127,Se P)::(nat_lit 128,VS P)::(nat_lit 130,TU P)::(nat_lit 131,SY P)::(nat_lit 133,Uy P)::(nat_lit 134,Tv P)::(nat_lit 135,RU P)::(nat_lit 137,Wp P)::(nat_lit 138,WA P)::(nat_lit 140,WU P)::(nat_lit 141,VT P)::(nat_lit 142,Td P)::(nat_lit 144,UD P)::(nat_lit 145,RX P)::(nat_lit 147,WM P)::(nat_lit 148,UT P)::(nat_lit 149,SD P)::(nat_lit 152,Sg P)::(nat_lit 153,WQ P)::(nat_lit 154,Sk P)::(nat_lit 157,T8 P)::(nat_lit 158,SS P)::(nat_lit 159,Va P)::(nat_lit 162,Sb P)::(nat_lit 163,T1 P)::(nat_lit 171,US P)::(nat_lit 174,T5 P)::(nat_lit 175,VU P)::(nat_lit 176,WE P)::(nat_lit 179,Uz P)::(nat_lit 180,Tt P)::(nat_lit 181,Th P)::(nat_lit 183,VE P)::(nat_lit 184,Tu P)::(nat_lit 186,U0 P)::(nat_lit 187,SX P)::(nat_lit 188,Ul P)::(nat_lit 190,WC P)::(nat_lit 191,Ww P)::(nat_lit 193,RT P)::(nat_lit 194,V3 P)::(nat_lit 195,WR P)::(nat_lit 196,Wg P)::(nat_lit 197,T9 P)::(nat_lit 198,Sv P)::(nat_lit 199,Vj P)::(nat_lit 202,WV P)::(nat_lit 204,Ug P)::(nat_lit 205,Uq P)::(nat_lit 207,WH P)::(nat_lit 208,TK P)::(nat_lit 209,WJ P)::(nat_lit 211,UX P)::(nat_lit 212,Sj P)::(nat_lit 214,S6 P)::(nat_lit 215,UA P)::(nat_lit 216,UQ P)::(nat_lit 218,VO P)::(nat_lit 219,Us P)::(nat_lit 221,Vc P)::(nat_lit 222,Uk P)::(nat_lit 223,Tx P)::(nat_lit 225,Ss P)::(nat_lit 226,Vg P)::(nat_lit 228,T6 P)::(nat_lit 229,Ux P)::(nat_lit 230,Sh P)::(nat_lit 232,TF P)::(nat_lit 233,Vu P)::(nat_lit 235,TY P)::(nat_lit 236,T7 P)::(nat_lit 237,Vf P)::(nat_lit 239,SF P)::(nat_lit 240,UJ P)::(nat_lit 242,U7 P)::(nat_lit 243,S4 P)::(nat_lit 244,WT P)::(nat_lit 246,Vd P)::(nat_lit 247,Tq P)::(nat_lit 249,Tw P)::(nat_lit 250,Wn P)::(nat_lit 251,V0 P)::(nat_lit 253,Ud P)::(nat_lit 254,V7 P)::(nat_lit 256,Ur P)::(nat_lit 257,VD P)::(nat_lit 258,SV P)::(nat_lit 260,WD P)::(nat_lit 261,VG P)::(nat_lit 263,S7 P)::(nat_lit 264,U9 P)::(nat_lit 265,V9 P)::(nat_lit 268,Wd P)::(nat_lit 269,Sl P)::(nat_lit 270,We P)::(nat_lit 272,Wh P)::(nat_lit 273,Vi P)::(nat_lit 275,Vk P)::(nat_lit 276,Tr P)::(nat_lit 277,TL P)::(nat_lit 279,Sy P)::(nat_lit 280,UC P)::(nat_lit 282,SL P)::(nat_lit 283,S5 P)::(nat_lit 284,Tl P)::(nat_lit 286,Ta P)::(nat_lit 287,S8 P)::(nat_lit 289,U8 P)::(nat_lit 290,Wm P)::(nat_lit 291,VW P)::(nat_lit 293,VR P)::(nat_lit 294,Ui P)::(nat_lit 296,Uj P)::(nat_lit 297,Uh P)::(nat_lit 298,Sa P)::(nat_lit 300,SG P)::(nat_lit 301,Wt P)::(nat_lit 303,UI P)::(nat_lit 304,R0 P)::(nat_lit 305,SJ P)::(nat_lit 307,Ue P)::(nat_lit 308,Wu P)::(nat_lit 310,Wi P)::(nat_lit 311,VI P)::(nat_lit 312,Tg P)::(nat_lit 314,VN P)::(nat_lit 315,Vr P)::(nat_lit 317,Tc P)::(nat_lit 318,Tz P)::(nat_lit 319,Ub P)::(nat_lit 321,VY P)::(nat_lit 322,V4 P)::(nat_lit 324,Uw P)::(nat_lit 325,Ua P)::(nat_lit 326,Uo P)::(nat_lit 329,Sn P)::(nat_lit 330,UN P)::(nat_lit 331,VB P)::(nat_lit 333,Vp P)::(nat_lit 334,Tf P)::(nat_lit 336,Vm P)::(nat_lit 337,WS P)::(nat_lit 338,Wl P)::(nat_lit 341,Vz P)::(nat_lit 342,Wo P)::(nat_lit 343,Wj P)::(nat_lit 345,Vn P)::(nat_lit 346,RW P)::(nat_lit 348,SM P)::(nat_lit 349,WL P)::(nat_lit 350,UK P)::(nat_lit 353,Uv P)::(nat_lit 354,TN P)::(nat_lit 355,WP P)::(nat_lit 358,VM P)::(nat_lit 359,VL P)::(nat_lit 360,UO P)::(nat_lit 363,VA P)::(nat_lit 364,Sr P)::(nat_lit 365,TJ P)::(nat_lit 368,SE P)::(nat_lit 369,Vb P)::(nat_lit 370,UV P)::(nat_lit 373,SI P)::(nat_lit 374,Sx P)::(nat_lit 375,RP P)::(nat_lit 377,SR P)::(nat_lit 378,TQ P)::(nat_lit 380,TX P)::(nat_lit 381,WK P)::(nat_lit 382,Vh P)::(nat_lit 385,TR P)::(nat_lit 386,Wq P)::(nat_lit 387,T4 P)::(nat_lit 390,V8 P)::(nat_lit 391,VF P)::(nat_lit 392,UF P)::(nat_lit 394,Vl P)::(nat_lit 395,SA P)::(nat_lit 397,Wr P)::(nat_lit 398,VJ P)::(nat_lit 399,Sw P)::(nat_lit 401,RV P)::(nat_lit 402,Wx P)::(nat_lit 404,Vq P)::(nat_lit 405,Sz P)::(nat_lit 406,SO P)::(nat_lit 408,S2 P)::(nat_lit 409,V5 P)::(nat_lit 411,WB P)::(nat_lit 412,T2 P)::(nat_lit 413,VQ P)::(nat_lit 415,SN P)::(nat_lit 416,Vv P)::(nat_lit 418,SZ P)::(nat_lit 419,Sq P)::(nat_lit 420,Wc P)::(nat_lit 423,Wv P)::(nat_lit 424,UY P)::(nat_lit 425,S0 P)::(nat_lit 428,Tp P)::(nat_lit 429,U5 P)::[]
noncomputable def addrs:List Addr:=[2,3,15,22,23,24,25,28,35,37,38,40,41,42,43,44,47,54,56,57,59,60,61,62,63,66,73,74,75,78,80,81,83,84,85,87,88,90,91,92,94,95,97,98,99,102,103,104,106,107,109,110,111,114,115,116,119,120,121,123,124,126,127,128,130,131,133,134,135,137,138,140,141,142,144,145,147,148,149,152,153,154,157,158,159,162,163,171,174,175,176,179,180,181,183,184,186,187,188,190,191,193,194,195,196,197,198,199,202,204,205,207,208,209,211,212,214,215,216,218,219,221,222,223,225,226,228,229,230,232,233,235,236,237,239,240,242,243,244,246,247,249,250,251,253,254,256,257,258,260,261,263,264,265,268,269,270,272,273,275,276,277,279,280,282,283,284,286,287,289,290,291,293,294,296,297,298,300,301,303,304,305,307,308,310,311,312,314,315,317,318,319,321,322,324,325,326,329,330,331,333,334,336,337,338,341,342,343,345,346,348,349,350,353,354,355,358,359,360,363,364,365,368,369,370,373,374,375,377,378,380,381,382,385,386,387,390,391,392,394,395,397,398,399,401,402,404,405,406,408,409,411,412,413,415,416,418,419,420,423,424,425,428,429]
def fr0 (P:Params):Frag:=addrs.zip (ob0 P)
theorem Ou (P:Params):frag P=fr0 P:=by kernel_rfl
noncomputable def view:Program:={ PySem.Challenge.pw_loomwright_k05_drafts_read_back with main:={ PySem.Challenge.pw_loomwright_k05_drafts_read_back.main with body:=[top 0,top 1,top 2,top 3,top 5,top 6,top 7,top 8,top 10,top 11,top 12,top 13,top 14,top 15,top 16,top 17,top 18,top 19,top 20,top 22,top 23,top 24,top 25,top 26,top 27,top 28,top 30,top 31,top 32,top 33,top 34,top 35,top 36,top 37,top 38,top 39,top 40,top 42,top 43,top 44,top 45,top 46,top 47,top 48,top 49,top 50,top 51,top 52,top 53,top 54,top 55,top 56,top 57,top 59,top 60,top 61,top 62,top 63,top 64,top 65,top 66,top 67,top 68,top 69,top 70,top 71,top 72,top 73] } }
noncomputable abbrev Xt:Shared->Bool:=λ s=>xlAt view [] s&&recOk (RowW.records PySem.Challenge.rw_loomwright_k05_drafts_read_back.row.toRowW) s
noncomputable def tabs:List Addr:=[414,327,306]
theorem addrs_eq:∀ P:Params,addrs=(frag P).map (·.1):=λ _=>by kernel_rfl
abbrev hook:Hook:=kmHook frag addrs addrs_eq tabs
noncomputable abbrev fuel:Nat:=5866
theorem SW:(λ _=>true) (HX.topT treeTable view (aWorld 1) 0 none,view,fr0,PySem.Challenge.rw_loomwright_k05_drafts_read_back)=true:=by k_qdec
theorem WZ (w:World) (os:OsState):(HX.topT treeTable PySem.Challenge.pw_loomwright_k05_drafts_read_back w 11 (some (.ref 6)) fuel ⟨HX.bootT w.params,11,{},Array.mk [],boot_drawn,boot_toks,os⟩ (topStub PySem.Challenge.pw_loomwright_k05_drafts_read_back)).map (λ s=>((staticsOk (importedModules PySem.Challenge.pw_loomwright_k05_drafts_read_back.main.body) (boot_heap w.params) s.abs.heap&&namesBound PySem.Challenge.pw_loomwright_k05_drafts_read_back s.abs.heap&&gensDone s.abs&&laidKept (boot_heap w.params) s.abs.heap),(addrs.map s.abs.heap.get?,tabs.map s.abs.heap.get?)))=some (true,((fr0 w.params).map λ p=>some p.2,tabs.map λ _=>some (tabObj #[]))):=by
  have _tw:=SW;rw [PySem.W.Fast.te5923862056798008813,PySem.W.Fast.te13011703327266388123,PySem.W.Fast.te14364793385576792824,PySem.W.Fast.te9621378704136392807,PySem.W.Fast.te16622519963233372141];kernel_rfl
theorem WY (w:World) (os:OsState):(HX.topT treeTable PySem.Challenge.pw_loomwright_k05_drafts_read_back w 11 (some (.ref 6)) fuel ⟨HX.bootT w.params,11,{},Array.mk [],boot_drawn,boot_toks,os⟩ (topStub PySem.Challenge.pw_loomwright_k05_drafts_read_back)).map (λ s=>(openSeen view [] (importedModules PySem.Challenge.pw_loomwright_k05_drafts_read_back.main.body) Xt true s.abs))=some (openGood view []):=by
  unfold Xt;rw [PySem.W.Fast.te5923862056798008813,PySem.W.Fast.te4187177175401517315,PySem.W.Fast.te2368527892694137696,PySem.W.Fast.te17997550423844778650,PySem.W.Fast.te3362334361053322433,PySem.W.Fast.te14364793385576792824,PySem.W.Fast.te9621378704136392807,PySem.W.Fast.te16622519963233372141];kernel_rfl
theorem left:LeftO PySem.Challenge.pw_loomwright_k05_drafts_read_back view [] Xt hook.obs hook.val fuel:=HX.left_run (by kernel_rfl) (by decide) (λ s=>by kernel_rfl) HX.hb λ w os=>by
  obtain ⟨s,r,l⟩:=Option.map_eq_some_iff.mp (WZ w os);obtain ⟨s2,r2,l2⟩:=Option.map_eq_some_iff.mp (WY w os);cases r.symm.trans r2;rw [<-Ou] at l;exact ⟨s.abs,HX.topT_of r,HX.three l l2⟩
end K05
namespace L2
open PySem PySem.Spec PyProof.Rows
abbrev Key:=Sum Int Str
noncomputable def Iv:Key->Value->Bool
  | .inl k,v=>Value.isInt k v
  | .inr x,v=>Value.isStrOf x v
noncomputable def W7 (w:World):Key->Int
  | .inl k=>hashInt k
  | .inr x=>hashStr w x
theorem A4:∀ {k:Key} {v:Value},Iv k v=true->(∃ i t,k=Sum.inl i/\v=Value.int i t)\/(∃ x t,k=Sum.inr x/\v=Value.str x t)
  | .inl i,v,h=>by
    obtain ⟨t,e⟩:=Value.isInt_shape (k:=i) (v:=v) h;exact .inl ⟨i,t,rfl,e⟩
  | .inr x,v,h=>by
    obtain ⟨t,e⟩:=Value.isStrOf_shape (x:=x) (v:=v) h;exact .inr ⟨x,t,rfl,e⟩
theorem Mo (i:Int) (t:Tok):Iv (.inl i) (.int i t)=true:=by simp [Iv,Value.isInt]
theorem MH (x:Str) (t:Tok):Iv (.inr x) (.str x t)=true:=by simp [Iv,Value.isStrOf]
theorem Rb (a b:Int):decide ((Sum.inl a:Key)=Sum.inl b)=(a == b):=by
  by_cases e:a=b
  · subst e;simp
  · have h:¬ (Sum.inl a:Key)=Sum.inl b:=λ q=>e (Sum.inl.inj q);rw [decide_eq_false h];exact (beq_eq_false_iff_ne.mpr e).symm
theorem QE (a b:Str):decide ((Sum.inr a:Key)=Sum.inr b)=decide (a=b):=by
  by_cases e:a=b
  · subst e;simp
  · have h:¬ (Sum.inr a:Key)=Sum.inr b:=λ q=>e (Sum.inr.inj q);rw [decide_eq_false h,decide_eq_false e]
theorem Qq (a:Int) (b:Str):decide ((Sum.inl a:Key)=Sum.inr b)=false:=decide_eq_false (λ q=>nomatch q)
theorem Qr (a:Str) (b:Int):decide ((Sum.inr a:Key)=Sum.inl b)=false:=decide_eq_false (λ q=>nomatch q)
noncomputable def Bj (prog:Program) (w:World):PySem.KeyKind prog w Key where
  is:=Iv
  hash:=W7 w
  inj:=λ v a b ha hb=>by
    rcases A4 ha with ⟨i,t,rfl,rfl⟩ | ⟨x,t,rfl,rfl⟩
    · rcases A4 hb with ⟨j,u,rfl,e⟩ | ⟨y,u,rfl,e⟩
      · injection e with e1 _;rw [e1]
      · exact nomatch e
    · rcases A4 hb with ⟨j,u,rfl,e⟩ | ⟨y,u,rfl,e⟩
      · exact nomatch e
      · injection e with e1 _;rw [e1]
  byValue:=λ k v h=>by
    rcases A4 h with ⟨i,t,rfl,rfl⟩ | ⟨x,t,rfl,rfl⟩ <;> rfl
  pyHash:=λ hv h=>by
    rcases A4 hv with ⟨i,t,rfl,rfl⟩ | ⟨x,t,rfl,rfl⟩
    · exact wpAny_pyHash_int h
    · exact wpAny_pyHash_str h
  eqBool:=λ hu hv h=>by
    rcases A4 hu with ⟨i,t,rfl,rfl⟩ | ⟨x,t,rfl,rfl⟩
    · rcases A4 hv with ⟨j,u,rfl,rfl⟩ | ⟨y,u,rfl,rfl⟩
      · rw [Rb] at h;exact wpAny_eqBool_int h
      · rw [Qq] at h;exact SeqAt.EqAt.int_str i t y u _ _ _ _ h
    · rcases A4 hv with ⟨j,u,rfl,rfl⟩ | ⟨y,u,rfl,rfl⟩
      · rw [Qr] at h;exact SeqAt.EqAt.str_int x t j u _ _ _ _ h
      · rw [QE] at h;exact wpAny_eqBool_str h
  «strs» := λ k x t v h=>by
    rcases A4 h with ⟨i,u,rfl,e⟩ | ⟨y,u,rfl,e⟩
    · exact nomatch e
    · injection e with e1 _;subst e1;cases v <;> rfl
theorem Ky (prog:Program) (w:World) (i:Int) (t:Tok):(Bj prog w).is (.inl i) (.int i t)=true:=Mo i t
theorem JZ (prog:Program) (w:World) (x:Str) (t:Tok):(Bj prog w).is (.inr x) (.str x t)=true:=MH x t
inductive V where
  | non | bl (b:Bool) | int (i:Int) | str (x:Str) | byt (b:Array UInt8) | flt (b:UInt64) | ref (a:Addr) | ty (n:String)
  deriving DecidableEq
def RelV:V->Value->Prop
  | .non,u=>u=Value.none
  | .bl b,u=>u=Value.bool b
  | .int i,u=>∃ t,u=Value.int i t
  | .str x,u=>∃ t,u=Value.str x t
  | .byt b,u=>∃ t,u=Value.bytes b t
  | .flt b,u=>∃ t,u=Value.float b t
  | .ref a,u=>u=Value.ref a
  | .ty n,u=>u=Value.type n
abbrev Vals:List V->List Value->Prop:=Paired RelV
theorem Vals.length {xs:List V} {us:List Value} (r:Vals xs us):xs.length=us.length:=Paired.length r
theorem Vals.get:∀ {xs:List V} {us:List Value} {i:Nat} {x:V},Vals xs us->xs[i]?=some x->∃ u,us[i]?=some u/\RelV x u
  | _,_,_,_, .nil,e=>by simp at e
  | _,_,0,_, .cons r _,e=>by simp at e;subst e;exact ⟨_,rfl,r⟩
  | _,_,i+1,x, .cons _ t,e=>by
    obtain ⟨u,h1,h2⟩:=Vals.get (i:=i) (x:=x) t (by simpa using e);exact ⟨u,by simpa using h1,h2⟩
theorem Vals.set {x:V} {u:Value} (r:RelV x u):∀ {xs:List V} {us:List Value} (i:Nat),Vals xs us->Vals (xs.set i x) (us.set i u)
  | _,_,_, .nil=> .nil
  | _,_,0, .cons _ t=> .cons r t
  | _,_,i+1, .cons q t=> .cons q (Vals.set r i t)
theorem Vals.append:∀ {xs ys:List V} {us ws:List Value},Vals xs us->Vals ys ws->Vals (xs++ys) (us++ws)
  | _,_,_,_, .nil,s=>s
  | _,_,_,_, .cons r t,s=> .cons r (Vals.append t s)
theorem Vals.take:∀ {xs:List V} {us:List Value} (n:Nat),Vals xs us->Vals (xs.take n) (us.take n)
  | _,_,0,_=> .nil
  | _,_,_+1, .nil=> .nil
  | _,_,n+1, .cons r t=> .cons r (Vals.take n t)
theorem Vals.drop:∀ {xs:List V} {us:List Value} (n:Nat),Vals xs us->Vals (xs.drop n) (us.drop n)
  | _,_,0,r=>r
  | _,_,_+1, .nil=> .nil
  | _,_,n+1, .cons _ t=>Vals.drop n t
def RelO:Option V->Option Value->Prop
  | some v,some u=>RelV v u
  | none,none=>True
  | _,_=>False
def KV {κ:Type}:List (κ × V)->List (κ × Value)->Prop:=Paired λ (p:κ × V) (q:κ × Value)=>p.1=q.1/\RelV p.2 q.2
noncomputable def kV:Key->V
  | .inl i=> .int i
  | .inr x=> .str x
inductive HO where
  | lst (xs:List V)
  | tup (xs:List V)
  | dK (kvs:List (Key × V)) | dT (kvs:List (List Key × V))
  | set (S:Int->Bool) (n:Nat)
  | ins (C dx:Addr) (fs:List (Str × V))
  | own (x:Addr)
  | xd (fs:List (Str × V))
  | met (f x:Addr)
  | rng (lo hi:Int)
  | frz (o:Obj) (u:HO)
  | tbl (ps:Array Value)
  | ext (φ:Heap->Prop)
abbrev Hp:=Addr->Option HO
noncomputable def upd (H:Hp) (a:Addr) (o:HO):Hp:=λ b=>if b=a then some o else H b
theorem Ag {H:Hp} {a:Addr} {o:HO}:upd H a o a=some o:=by unfold upd;rw [if_pos rfl]
theorem As {H:Hp} {a b:Addr} {o:HO} (h:b≠a):upd H a o b=H b:=by unfold upd;rw [if_neg h]
theorem DP {H:Hp} {a b:Addr} {o u:HO} (h:H a=some o) (h':H b=some u) (d:o≠u):a≠b:=by
  intro e;subst e;rw [h] at h';exact d (Option.some.inj h')
theorem AZ {H:Hp} {a b:Addr} {o:HO} (h:H a=some o) (h':H b=none):a≠b:=by
  intro e;subst e;rw [h] at h';cases h'
section
variable (P:Program) (w:World)
def ObjOk (H:Hp) (h:Heap) (a:Addr):HO->Prop
  | .lst xs=>xs.length<=sizeLine/\∃ (its:List Value) (n:Nat),Vals xs its/\h.get? a=some { cls:= .type "list",data:= .seq its.toArray n }
  | .tup xs=>xs.length<=sizeLine/\∃ its:List Value,Vals xs its/\IsTup h a its.toArray
  | .dK kvs=>kvs.length<=sizeLine/\(a == sysModules)=false/\∃ vs,KV kvs vs/\h.DictOf (Bj P w) a vs
  | .dT kvs=>kvs.length<=sizeLine/\(a == sysModules)=false/\∃ xs:List (List Key × Addr × Value),
      Paired (λ (p:List Key × V) (q:List Key × Addr × Value)=>p.1=q.1/\H q.2.1=some (.tup (p.1.map kV))/\RelV p.2 q.2.2) kvs xs/\
      ∃ o es ep,h.get? a=some o/\o.ExactDict/\o.data= .dict es ep/\es.toList=xs.map (entryOfKey (tupleKind (Bj P w)))/\(xs.map (·.1)).Nodup
  | .set S n=>h.SetOf (intKind P w) a S n
  | .ins C dx fs=>H dx=some (.own a)/\fs.length<=1000/\dx≠a/\h.get? a=some (PySem.W.instObj C dx)/\
      ∃ mA,h.Ns1 dx mA/\(∀ f,RelO (fs.lookup f) (mA f))/\PySem.Within mA (fs.map (·.1))
  | .own _=>∃ o,h.get? a=some o
  | .xd fs=>∃ mA,h.Ns1 a mA/\∀ f,RelO (fs.lookup f) (mA f)
  | .rng lo hi=>∃ t u v,h.get? a=some { cls:= .type "range",data:= .fields #[.int lo t, .int hi u, .int 1 v] }
  | .frz o u=>h.get? a=some o/\ObjOk H h a u
  | .tbl ps=>h.get? a=some { cls:= .none,data:= .fields ps }
  | .met f x=>h.get? a=some (PySem.W.methodObj (.ref f) (.ref x))
  | .ext φ=>φ h/\(∃ o,h.get? a=some o)/\∀ h1 h2:Heap,φ h1->(∀ o,h1.get? a=some o->h2.get? a=some o)->φ h2
def HOk (H:Hp) (h:Heap):Prop:=∀ a o,H a=some o->ObjOk P w H h a o
end
section
variable {P:Program} {w:World} {H H':Hp} {h h':Heap} {a:Addr} {o:HO}
theorem ObjOk.lt (x:ObjOk P w H h a o):a<h.objs.size:=by
  cases o with
  | lst xs=>obtain ⟨_,_,_,_,e⟩:=x;exact Heap.lt_size e
  | tup xs=>obtain ⟨_,_,_,p⟩:=x;exact p.lt
  | dK kvs=>obtain ⟨_,_,_,_,o,_,_,e,_⟩:=x;exact Heap.lt_size e
  | dT kvs=>obtain ⟨_,_,_,_,o,_,_,e,_⟩:=x;exact Heap.lt_size e
  | set S n=>obtain ⟨o,_,_,_,e,_⟩:=x;exact Heap.lt_size e
  | ins C dx fs=>obtain ⟨_,_,_,e,_⟩:=x;exact Heap.lt_size e
  | own y=>obtain ⟨_,e⟩:=x;exact Heap.lt_size e
  | xd fs=>obtain ⟨_,⟨_,_,_,e,_⟩,_⟩:=x;exact Heap.lt_size e
  | rng lo hi=>obtain ⟨_,_,_,e⟩:=x;exact Heap.lt_size e
  | frz ob u=>obtain ⟨e,_⟩:=x;exact Heap.lt_size e
  | tbl ps=>exact Heap.lt_size (show h.get? a=some _ from x)
  | met f y=>exact Heap.lt_size (show h.get? a=some _ from x)
  | ext φ=>obtain ⟨_,⟨_,e⟩,_⟩:=x;exact Heap.lt_size e
theorem Paired.mapP {α β:Type} {F G:α->β->Prop}:∀ {l₁:List α} {l₂:List β},Paired F l₁ l₂->(∀ a b,F a b->G a b)->Paired G l₁ l₂
  | _,_, .nil,_=> .nil
  | _,_, .cons r t,f=> .cons (f _ _ r) (Paired.mapP t f)
theorem ObjOk.stay (x:ObjOk P w H h a o) (k:∀ b u,(b=a\/H b=some (.own a))->h.get? b=some u->h'.get? b=some u)
    (ho:∀ b,H b=some (.own a)->H' b=some (.own a)) (ht:∀ b xs,H b=some (.tup xs)->H' b=some (.tup xs)):ObjOk P w H' h' a o:=by
  induction o with
  | lst xs=>obtain ⟨z,its,n,r,e⟩:=x;exact ⟨z,its,n,r,k _ _ (.inl rfl) e⟩
  | tup xs=>obtain ⟨z,its,r,ob,e,c⟩:=x;exact ⟨z,its,r,ob,k _ _ (.inl rfl) e,c⟩
  | dK kvs=>obtain ⟨z,y,vs,r,ob,es,ep,e,c⟩:=x;exact ⟨z,y,vs,r,ob,es,ep,k _ _ (.inl rfl) e,c⟩
  | dT kvs=>
    obtain ⟨z,y,xs,r,ob,es,ep,e,c⟩:=x;exact ⟨z,y,xs,Paired.mapP r λ p q z=>⟨z.1,ht _ _ z.2.1,z.2.2⟩,ob,es,ep,k _ _ (.inl rfl) e,c⟩
  | set S n=>obtain ⟨ob,es,ep,t,e,c⟩:=x;exact ⟨ob,es,ep,t,k _ _ (.inl rfl) e,c⟩
  | ins C dx fs=>
    obtain ⟨d,z,ne,e,mA,⟨od,es,ep,e2,c⟩,r⟩:=x;exact ⟨ho _ d,z,ne,k _ _ (.inl rfl) e,mA,⟨od,es,ep,k _ _ (.inr d) e2,c⟩,r⟩
  | own y=>obtain ⟨ob,e⟩:=x;exact ⟨ob,k _ _ (.inl rfl) e⟩
  | xd fs=>obtain ⟨mA,⟨od,es,ep,e,c⟩,r⟩:=x;exact ⟨mA,⟨od,es,ep,k _ _ (.inl rfl) e,c⟩,r⟩
  | rng lo hi=>obtain ⟨t,u,v,e⟩:=x;exact ⟨t,u,v,k _ _ (.inl rfl) e⟩
  | frz ob u ih=>obtain ⟨e,q⟩:=x;exact ⟨k _ _ (.inl rfl) e,ih q⟩
  | tbl ps=>
    have e:h.get? a=some { cls:= .none,data:= .fields ps }:=x;show h'.get? a=some { cls:= .none,data:= .fields ps };exact k a _ (.inl rfl) e
  | met f y=>
    have e:h.get? a=some (PySem.W.methodObj (.ref f) (.ref y)):=x;show h'.get? a=some (PySem.W.methodObj (.ref f) (.ref y));exact k a _ (.inl rfl) e
  | ext φ=>obtain ⟨p,⟨o,e⟩,st⟩:=x;exact ⟨st _ _ p λ o q=>k _ _ (.inl rfl) q,⟨o,k _ _ (.inl rfl) e⟩,st⟩
theorem HOk.lt (x:HOk P w H h) (e:H a=some o):a<h.objs.size:=(x a o e).lt
theorem HOk.fresh (x:HOk P w H h) (e:h.objs.size<=a):H a=none:=by
  cases q:H a with
  | none=>rfl
  | some u=>exact absurd (Nat.lt_of_lt_of_le (x.lt q) e) (Nat.lt_irrefl _)
theorem HOk.kept (x:HOk P w H h) (k:∀ b u,h.get? b=some u->h'.get? b=some u):HOk P w H h':=λ a o e=>
  (x a o e).stay (λ b u _ q=>k b u q) (λ _ q=>q) λ _ _ q=>q
theorem HOk.laid (x:HOk P w H h) (k:∀ b u,h.get? b=some u->h'.get? b=some u) (hp:h.objs.size<=a) (new:ObjOk P w (upd H a o) h' a o):HOk P w (upd H a o) h':=λ b u e=>by
  have hn:=x.fresh hp;by_cases hb:b=a
  · subst hb;rw [Ag] at e;cases e;exact new
  · rw [As hb] at e;exact (x b u e).stay (λ c v _ q=>k c v q) (λ c q=>by rw [As (AZ q hn)];exact q) λ c xs q=>by rw [As (AZ q hn)];exact q
end
def Rd (H:Hp) (a:Addr) (u:HO):Prop:=H a=some u\/∃ o,H a=some (.frz o u)
theorem Rd.ok {P:Program} {w:World} {H:Hp} {h:Heap} {a:Addr} {u:HO} (r:Rd H a u) (x:HOk P w H h):ObjOk P w H h a u:=by
  rcases r with r | ⟨o,r⟩
  · exact x a u r
  · obtain ⟨_,q⟩:=x a _ r;exact q
def Mut:Option HO->Prop
  | some (.lst _)=>True
  | some (.dK _)=>True
  | some (.dT _)=>True
  | some (.set _ _)=>True
  | some (.ins _ _ _)=>True
  | some (.ext _)=>True
  | _=>False
section
variable {P:Program} {w:World} {H:Hp} {h h':Heap} {x e:Addr} {o':HO}
theorem HOk.write (ok:HOk P w H h) (mu:Mut (H x)) (he:e=x\/H e=some (.own x)) (k:∀ b u,b≠e->h.get? b=some u->h'.get? b=some u) (heo:∃ u,h'.get? e=some u)
    (new:ObjOk P w (upd H x o') h' x o'):HOk P w (upd H x o') h':=λ b u q=>by
  have nown:∀ c y,H c=some (.own y)->c≠x:=λ c y r z=>by subst z;rw [r] at mu;exact mu
  have ntup:∀ c xs,H c=some (.tup xs)->c≠x:=λ c xs r z=>by subst z;rw [r] at mu;exact mu
  by_cases hb:b=x
  · subst hb;rw [Ag] at q;cases q;exact new
  · rw [As hb] at q;by_cases hbe:b=e
    · have q':H b=some (.own x):=by
        rcases he with z | z
        · exact absurd (hbe.trans z) hb
        · rw [hbe];exact z
      rw [q] at q';cases q';obtain ⟨v,hv⟩:=heo;exact ⟨v,by rw [hbe];exact hv⟩
    · refine (ok b u q).stay (λ c v hc r=>k c v ?_ r) (λ c r=>by rw [As (nown c b r)];exact r) λ c xs r=>by rw [As (ntup c xs r)];exact r
      rcases hc with rfl | hc
      · exact hbe
      · rintro rfl;rcases he with z | z
        · exact nown c b hc z
        · rw [hc] at z;cases z;exact hb rfl
end
structure Un (fs ex:List Addr) (H H':Hp) (h h':Heap):Prop where
  keep:∀ b o,h.get? b=some o->H b=none->b∉fs->b∉ex->h'.get? b=some o
  slot:∀ b o,h.get? b=some o->H b=none->b∈fs->b∉ex->∃ sl,h'.get? b=some { o with slots:=sl }
  free:∀ b o,h.get? b=some o->H b=none->b∉ex->H' b=none
  there:∀ b o,h.get? b=some o->b∉ex->∃ o',h'.get? b=some o'
  tups:∀ b xs,H b=some (.tup xs)->H' b=some (.tup xs)
  frzs:∀ b o u,H b=some (.frz o u)->H' b=some (.frz o u)
  tbls:∀ b ps,H b=some (.tbl ps)->∃ more,H' b=some (.tbl (ps++more))
section
variable {fs fs' ex ex':List Addr} {H H1 H2:Hp} {h h1 h2 h':Heap} {a x e:Addr} {o:HO}
theorem Un.any (u:Un fs ex H H1 h h1) {b:Addr} {ob:Obj} (q:h.get? b=some ob) (n:H b=none) (hx:b∉ex):∃ sl,h1.get? b=some { ob with slots:=sl }:=by
  by_cases hb:b∈fs
  · exact u.slot b ob q n hb hx
  · exact ⟨ob.slots,u.keep b ob q n hb hx⟩
theorem Un.trans (a:Un fs ex H H1 h h1) (b:Un fs ex H1 H2 h1 h2):Un fs ex H H2 h h2 where
  keep:=λ c ob q n hc hx=>b.keep c ob (a.keep c ob q n hc hx) (a.free c ob q n hx) hc hx
  slot:=λ c ob q n hc hx=>by
    obtain ⟨sl,e1⟩:=a.slot c ob q n hc hx;obtain ⟨sl',e2⟩:=b.slot c _ e1 (a.free c ob q n hx) hc hx;exact ⟨sl',e2⟩
  free:=λ c ob q n hx=>by
    obtain ⟨o',e1⟩:=a.there c ob q hx;exact b.free c o' e1 (a.free c ob q n hx) hx
  there:=λ c ob q hx=>by
    obtain ⟨o',e1⟩:=a.there c ob q hx;exact b.there c o' e1 hx
  tups:=λ c xs q=>b.tups c xs (a.tups c xs q)
  frzs:=λ c ob xs q=>b.frzs c ob xs (a.frzs c ob xs q)
  tbls:=λ c ps q=>by
    obtain ⟨m1,e1⟩:=a.tbls c ps q;obtain ⟨m2,e2⟩:=b.tbls c _ e1;exact ⟨m1++m2,by rw [e2,Array.append_assoc]⟩
theorem Un.kept (k:∀ b u,h.get? b=some u->h'.get? b=some u):Un fs ex H H h h':=
  ⟨λ b ob q _ _ _=>k b ob q,λ b ob q _ _ _=>⟨ob.slots,k b ob q⟩,λ _ _ _ n _=>n,λ b ob q _=>⟨ob,k b ob q⟩,λ _ _ q=>q,λ _ _ _ q=>q,λ _ ps q=>⟨#[],by rw [q];simp⟩⟩
theorem Un.refl:Un fs ex H H h h:=Un.kept λ _ _ q=>q
theorem Un.laid (k:∀ b u,h.get? b=some u->h'.get? b=some u) (hp:h.objs.size<=a) (hn:H a=none):Un fs ex H (upd H a o) h h' where
  keep:=λ b u q _ _ _=>k b u q
  slot:=λ b u q _ _ _=>⟨u.slots,k b u q⟩
  free:=λ b u q n _=>by rw [As (Nat.ne_of_lt (Nat.lt_of_lt_of_le (Heap.lt_size q) hp))];exact n
  there:=λ b u q _=>⟨u,k b u q⟩
  tups:=λ b xs q=>by rw [As (AZ q hn)];exact q
  frzs:=λ b u xs q=>by rw [As (AZ q hn)];exact q
  tbls:=λ b ps q=>⟨#[],by rw [As (AZ q hn),q];simp⟩
theorem Un.write (mu:Mut (H x)) (he:e=x\/H e=some (.own x)) (k:∀ b u,b≠e->h.get? b=some u->h'.get? b=some u) (heo:∃ u,h'.get? e=some u):Un fs ex H (upd H x o) h h':=by
  have hx:∀ b,H b=none->b≠x:=λ b n z=>by subst z;rw [n] at mu;exact mu
  have hb:∀ b,H b=none->b≠e:=λ b n z=>by
    subst z;rcases he with r | r
    · exact hx b n r
    · rw [n] at r;cases r
  have hm:∀ b u,H b=some u->¬ Mut (some u)->b≠x:=λ b u q nm z=>by subst z;rw [q] at mu;exact nm mu
  refine ⟨λ b u q n _ _=>k b u (hb b n) q,λ b u q n _ _=>⟨u.slots,k b u (hb b n) q⟩,λ b u q n _=>by rw [As (hx b n)];exact n,λ b u q _=> ?_,
    λ b xs q=>by rw [As (hm b _ q λ z=>z)];exact q,λ b u xs q=>by rw [As (hm b _ q λ z=>z)];exact q,λ b ps q=>⟨#[],by rw [As (hm b _ q λ z=>z),q];simp⟩⟩
  by_cases hbe:b=e
  · subst hbe;exact heo
  · exact ⟨u,k b u hbe q⟩
end
noncomputable def trk (h:Heap) (H:Hp):List Addr:=(List.range h.objs.size).filter λ a=>(H a).isSome
noncomputable def JS (h:Heap) (H:Hp):Heap:=PySem.W.hideAll h (trk h H)
theorem Mi (h:Heap) (H:Hp):(JS h H).objs.size=h.objs.size:=PySem.W.hideAll_size _ _
theorem Hb {h:Heap} {H:Hp} {b:Addr} {o:Obj} (e:h.get? b=some o) (n:H b=none):(JS h H).get? b=some o:=
  PySem.W.hideAll_get _ e λ hm=>by
    have q:(H b).isSome=true:=(List.mem_filter.mp hm).2;rw [n] at q;simp at q
theorem Pu {h:Heap} {H:Hp} {b:Addr} {o:Obj} (e:(JS h H).get? b=some o):h.get? b=some o/\H b=none:=by
  have e':h.get? b=some o:=PySem.W.of_hideAll (trk h H) e;refine ⟨e',?_⟩;cases q:H b with
  | none=>rfl
  | some x=>
    have hm:b∈trk h H:=List.mem_filter.mpr ⟨List.mem_range.mpr (Heap.lt_size e'),by simp [q]⟩;have z:(JS h H).get? b=none:=PySem.W.hideAll_none (trk h H) hm;rw [z] at e;cases e
noncomputable def Pp (g h:Heap) (L:Addr):List (Addr × Obj):=(List.range h.objs.size).filterMap λ a=>if a=L\/(g.get? a).isSome=true then none else (h.get? a).map λ o=>(a,o)
noncomputable def rest (g h:Heap) (L d:Addr):List (Addr × Obj):=(Pp g h L).filter λ p=>decide (p.1≠d)
structure Mod (K:PySem.W.Frag) (mg:Str->Option Value) (base:Heap):Prop where
  kin:K.In base
  glob:base.Ns mainGlobals mg
  blt:∃ mb,base.Ns builtinsNs mb/\∀ x:Str,x≠"__name__"->mb x=bootBuiltins x
  nolimit:base.NoLimit
structure Cx where
  prog:Program
  w:World
  K:PySem.W.Frag
  mg:Str->Option Value
  base:Heap
  A:Around
  N:List Str
  s₀:Shared
  H₀:Hp
  env:Env
  outer:List Env
  stack:List Env
  ex:List Addr
  fn:Str->Bool
  calm:Bool
  pn:List (Addr × Obj)
  xe:Value->Shared->Prop
noncomputable def frs (l:List Env):List Addr:=l.filterMap (·.frame)
noncomputable abbrev Cx.fs (X:Cx):List Addr:=frs X.outer
def Vis (sc:Scope) (x:Str):Prop:=sc.names.lookup x=some .local\/sc.names.lookup x=some .cell\/sc.names.lookup x=some .free
def Loc (sc:Scope) (x:Str):Prop:=sc.names.lookup x=some .local\/sc.names.lookup x=some .cell
def Xl (env:Env) (h:Heap) (m:Str->Option Value) (x:Str) (u:Value):Prop:=
  (env.kindOf x=some .local/\m x=some u)\/((env.kindOf x=some .cell\/env.kindOf x=some .free)/\∃ c,env.cells.lookup x=some c/\h.IsCell c (some u))
structure Cx.Ok (X:Cx):Prop where
  mod:Mod X.K X.mg X.base
  kind:X.env.scope.kind= .function
  glob:X.env.globals=mainGlobals
  blt:X.env.builtins=builtinsNs
  above:X.s₀.heap.objs.size<=X.env.locals
  inj:∀ x y c,X.env.cells.lookup x=some c->X.env.cells.lookup y=some c->x=y
  has:∀ x,(X.env.kindOf x=some .cell\/X.env.kindOf x=some .free)->∃ c,X.env.cells.lookup x=some c
  cab:∀ x c,X.fn x=true->X.env.cells.lookup x=some c->X.s₀.heap.objs.size<=c
  hd:X.calm=true->X.A.handled=none
  frames:X.A.frames=some X.stack
  stk:X.stack=X.outer\/(X.stack=X.env::X.outer/\X.env.frame=some X.env.locals)
  exf:∀ b∈X.ex,b≠X.env.locals/\∀ x c,X.env.cells.lookup x=some c->c≠b
  bs:∀ b o,X.base.get? b=some o->X.s₀.heap.get? b=some o/\X.H₀ b=none
  bsz:X.base.objs.size<=X.s₀.heap.objs.size
  noex:∀ b o,X.base.get? b=some o->b∉X.ex
  exfs:∀ b∈X.ex,b∉X.fs
  funs:X.s₀.heap.FunFrames X.base X.outer
  frf:∀ b∈X.fs,X.H₀ b=none
structure Inv (X:Cx) (pins:List (Addr × Obj)) (σ:List (Option V)) (H:Hp) (s:Shared):Prop where
  ok:X.Ok
  os:s.os=X.s₀.os
  bare:AllBare s.gens
  base:Un X.fs X.ex X.H₀ H X.s₀.heap s.heap
  loc:∃ m,s.heap.Ns X.env.locals m/\∀ (i:Nat) (x:Str) (v:V),X.N[i]?=some x->σ[i]?=some (some v)->Vis X.env.scope x->∃ u,RelV v u/\Xl X.env s.heap m x u
  cell:∀ x c,X.env.cells.lookup x=some c->∃ v,s.heap.IsCell c v
  free:H X.env.locals=none
  freeC:∀ x c,X.env.cells.lookup x=some c->H c=none
  pin:∀ p∈X.pn++pins,s.heap.get? p.1=some p.2/\H p.1=none/\p.1≠X.env.locals/\p.1∉X.fs/\∀ v,p.2.data≠ .cell v
  hok:HOk X.prog X.w H s.heap
  len:σ.length=X.N.length
section
variable {X:Cx} {pins:List (Addr × Obj)} {σ:List (Option V)} {H H':Hp} {s:Shared} {h':Heap}
theorem Cx.Ok.nofr (ok:X.Ok) {b:Addr} {o:Obj} (e:X.base.get? b=some o):b∉X.fs:=λ hb=>by
  have:=(ok.funs.mem hb).1;rw [e] at this;cases this
theorem Inv.bs (I:Inv X pins σ H s):∀ b o,X.base.get? b=some o->s.heap.get? b=some o/\H b=none:=λ b o e=>
  ⟨I.base.keep b o (I.ok.bs b o e).1 (I.ok.bs b o e).2 (I.ok.nofr e) (I.ok.noex b o e),I.base.free b o (I.ok.bs b o e).1 (I.ok.bs b o e).2 (I.ok.noex b o e)⟩
theorem Inv.bk (I:Inv X pins σ H s):∀ b o,X.base.get? b=some o->s.heap.get? b=some o:=λ b o e=>(I.bs b o e).1
theorem Inv.mod (I:Inv X pins σ H s):Mod X.K X.mg X.base:=I.ok.mod
theorem Inv.kIn (I:Inv X pins σ H s):X.K.In s.heap:=I.ok.mod.kin.keeps I.bk
theorem Inv.fr (I:Inv X pins σ H s):∃ m,Fr X.base X.env.locals s.heap m:=
  let ⟨m,hn,_⟩:=I.loc
  ⟨m,hn,I.bk,Nat.le_trans I.ok.bsz I.ok.above⟩
theorem Inv.lt (I:Inv X pins σ H s):X.env.locals<s.heap.objs.size:=let ⟨_,hn,_⟩:=I.loc;hn.lt
theorem Inv.sz (I:Inv X pins σ H s):X.s₀.heap.objs.size<=s.heap.objs.size:=Nat.le_trans I.ok.above (Nat.le_of_lt I.lt)
theorem Inv.nofs (I:Inv X pins σ H s) {a:Addr} (h:s.heap.objs.size<=a):a∉X.fs:=λ hb=>by
  obtain ⟨_,o,ho,_⟩:=I.ok.funs.mem hb;exact absurd (Nat.lt_of_lt_of_le (Heap.lt_size ho) (Nat.le_trans I.sz h)) (Nat.lt_irrefl _)
theorem Inv.cne (I:Inv X pins σ H s):∀ x c,X.env.cells.lookup x=some c->c≠X.env.locals:=λ x c e z=>by
  obtain ⟨v,o,ho,hd⟩:=I.cell x c e;obtain ⟨m,⟨o',es,ep,ho',hd',_⟩,_⟩:=I.loc;rw [z,ho'] at ho;cases ho;rw [hd'] at hd;cases hd
theorem Inv.funs (I:Inv X pins σ H s):s.heap.FunFrames X.base X.outer:=by
  have all:∀ (l:List Env),(∀ b∈frs l,b∈X.fs)->X.s₀.heap.FunFrames X.base l->s.heap.FunFrames X.base l:=by
    intro l
    induction l with
    | nil=>intro _ _;trivial
    | cons env r ih=>
      intro hs hl;obtain ⟨hk,⟨L,o,hf,hn,ho,hd⟩,hr⟩:=hl;have hL:L∈X.fs:=hs L (by unfold frs;rw [List.filterMap_cons,hf];exact List.mem_cons_self);obtain ⟨sl,e⟩:=I.base.slot L o ho (I.ok.frf L hL) hL λ z=>I.ok.exfs L z hL;exact ⟨hk,⟨L,_,hf,hn,e,hd⟩,ih (λ b hb=>hs b (by unfold frs;rw [List.filterMap_cons,hf];exact List.mem_cons_of_mem _ hb)) hr⟩
  exact all X.outer (λ _ hb=>hb) I.ok.funs
theorem Inv.stack (I:Inv X pins σ H s):s.heap.FunFrames X.base X.stack:=by
  rcases I.ok.stk with e | ⟨e,hf⟩
  · rw [e];exact I.funs
  · rw [e];obtain ⟨m,hn,_⟩:=I.loc;refine .cons (by rw [I.ok.kind];decide) hf hn ?_ I.funs;exact Heap.get?_none_of_le (Nat.le_trans I.ok.bsz I.ok.above)
theorem Inv.stkSub (I:Inv X pins σ H s):∀ b∈frs X.stack,b∈X.env.locals::X.fs:=λ b hb=>by
  rcases I.ok.stk with e | ⟨e,hf⟩
  · rw [e] at hb;exact List.mem_cons_of_mem _ hb
  · rw [e] at hb;unfold frs at hb;rw [List.filterMap_cons,hf] at hb;exact hb
theorem Inv.stkFree (I:Inv X pins σ H s):∀ b∈frs X.stack,H b=none:=λ b hb=>by
  rcases List.mem_cons.mp (I.stkSub b hb) with e | hb
  · rw [e];exact I.free
  · obtain ⟨_,o,ho,_⟩:=I.ok.funs.mem hb;exact I.base.free b o ho (I.ok.frf b hb) λ z=>I.ok.exfs b z hb
theorem Inv.step {g':Array GenState} {t':Nat} {d':Drawn} {ch:List Addr} (I:Inv X pins σ H s)
    (hch:∀ b∈ch,(b∈X.ex\/X.s₀.heap.objs.size<=b)/\b≠X.env.locals/\(∀ x c,X.env.cells.lookup x=some c->c≠b)/\∀ p∈X.pn++pins,p.1≠b)
    (keep:∀ b o,b≠X.env.locals->b∉X.fs->b∉ch->s.heap.get? b=some o->H b=none->h'.get? b=some o)
    (slot:∀ b o,b≠X.env.locals->b∈X.fs->b∉ch->s.heap.get? b=some o->H b=none->∃ sl,h'.get? b=some { o with slots:=sl }) (free:∀ b o,b∉ch->s.heap.get? b=some o->H b=none->H' b=none)
    (there:∀ b o,b∉ch->s.heap.get? b=some o->∃ o',h'.get? b=some o')
    (tups:∀ b xs,H b=some (.tup xs)->H' b=some (.tup xs)) (frzs:∀ b o u,H b=some (.frz o u)->H' b=some (.frz o u)) (tbls:∀ b ps,H b=some (.tbl ps)->∃ more,H' b=some (.tbl (ps++more)))
    (ns:∀ m,s.heap.Ns X.env.locals m->h'.Ns X.env.locals m) (hok:HOk X.prog X.w H' h') (hg:AllBare g'):
    Inv X pins σ H' { s with heap:=h',gens:=g',drawn:=d',toks:=t' }:=by
  have neL:∀ b o,X.s₀.heap.get? b=some o->b≠X.env.locals:=λ b o e=>Nat.ne_of_lt (Nat.lt_of_lt_of_le (Heap.lt_size e) I.ok.above);have neC:∀ b o,X.s₀.heap.get? b=some o->b∉X.ex->b∉ch:=λ b o e hx hb=>by
    rcases (hch b hb).1 with z | z
    · exact hx z
    · exact absurd (Nat.lt_of_lt_of_le (Heap.lt_size e) z) (Nat.lt_irrefl _)
  have cellK:∀ x c,X.env.cells.lookup x=some c->∀ v,s.heap.IsCell c v->h'.IsCell c v:=λ x c e v ⟨o,ho,hd⟩=>by
    have nch:c∉ch:=λ z=>(hch c z).2.2.1 x c e rfl;by_cases hc:c∈X.fs
    · obtain ⟨sl,q⟩:=slot c o (I.cne x c e) hc nch ho (I.freeC x c e);exact ⟨_,q,hd⟩
    · exact ⟨o,keep c o (I.cne x c e) hc nch ho (I.freeC x c e),hd⟩
  refine ⟨I.ok,I.os,hg,⟨λ b o e n hb hx=> ?_,λ b o e n hb hx=> ?_,λ b o e n hx=> ?_,λ b o e hx=> ?_,λ b xs e=>tups b xs (I.base.tups b xs e),λ b o xs e=>frzs b o xs (I.base.frzs b o xs e),λ b ps e=> ?_⟩,?_,λ x c e=> ?_,?_,λ x c e=> ?_,λ p hp=> ?_,hok,I.len⟩
  · exact keep b o (neL b o e) hb (neC b o e hx) (I.base.keep b o e n hb hx) (I.base.free b o e n hx)
  · obtain ⟨sl,e1⟩:=I.base.slot b o e n hb hx;obtain ⟨sl',e2⟩:=slot b _ (neL b o e) hb (neC b o e hx) e1 (I.base.free b o e n hx);exact ⟨sl',e2⟩
  · obtain ⟨o',e1⟩:=I.base.there b o e hx;exact free b o' (neC b o e hx) e1 (I.base.free b o e n hx)
  · obtain ⟨o',e1⟩:=I.base.there b o e hx;exact there b o' (neC b o e hx) e1
  · obtain ⟨m1,e1⟩:=I.base.tbls b ps e;obtain ⟨m2,e2⟩:=tbls b _ e1;exact ⟨m1++m2,by rw [e2,Array.append_assoc]⟩
  · obtain ⟨m,hn,hl⟩:=I.loc;refine ⟨m,ns m hn,λ i x v e1 e2 e3=> ?_⟩;obtain ⟨u,r,l⟩:=hl i x v e1 e2 e3;refine ⟨u,r,?_⟩;rcases l with l | ⟨k,c,e,z⟩
    · exact .inl l
    · exact .inr ⟨k,c,e,cellK x c e _ z⟩
  · obtain ⟨v,z⟩:=I.cell x c e;exact ⟨v,cellK x c e v z⟩
  · obtain ⟨m,⟨o,_,_,ho,_⟩,_⟩:=I.loc;exact free _ o (λ z=>(hch _ z).2.1 rfl) ho I.free
  · obtain ⟨v,o,ho,hd⟩:=I.cell x c e;exact free c o (λ z=>(hch c z).2.2.1 x c e rfl) ho (I.freeC x c e)
  · obtain ⟨e,n,ne,nf,d⟩:=I.pin p hp;have nch:p.1∉ch:=λ z=>(hch p.1 z).2.2.2 p hp rfl;exact ⟨keep p.1 p.2 ne nf nch e n,free p.1 p.2 nch e n,ne,nf,d⟩
theorem Inv.un {t':Nat} (I:Inv X pins σ H s) (u:Un X.fs [] H H' s.heap h') (hok:HOk X.prog X.w H' h'):Inv X pins σ H' { s with heap:=h',toks:=t' }:=by
  obtain ⟨m,⟨o,es,ep,ho,r⟩,_⟩:=id I.loc;obtain ⟨sl,hL⟩:=u.any ho I.free (by simp);exact I.step (g':=s.gens) (d':=s.drawn) (ch:=[]) (λ _ z=>nomatch z) (λ b o _ hb _ e n=>u.keep b o e n hb (by simp)) (λ b o _ hb _ e n=>u.slot b o e n hb (by simp)) (λ b o _ e n=>u.free b o e n (by simp)) (λ b o _ e=>u.there b o e (by simp)) u.tups u.frzs u.tbls (λ m' hm=>by
    obtain ⟨o',es',ep',ho',r'⟩:=hm;rw [ho] at ho';cases ho';exact ⟨_,es',ep',hL,r'⟩) hok I.bare
theorem Inv.call {g':Array GenState} {t':Nat} {d':Drawn} {ch:List Addr} (I:Inv X pins σ H s) (u:Un (frs X.stack) ch H H' s.heap h') (hok:HOk X.prog X.w H' h') (hg:AllBare g')
    (hch:∀ b∈ch,(b∈X.ex\/X.s₀.heap.objs.size<=b)/\b≠X.env.locals/\(∀ x c,X.env.cells.lookup x=some c->c≠b)/\∀ p∈X.pn++pins,p.1≠b):
    Inv X pins σ H' { s with heap:=h',gens:=g',drawn:=d',toks:=t' }:=by
  obtain ⟨m,⟨o,es,ep,ho,r⟩,_⟩:=id I.loc;obtain ⟨sl,hL⟩:=u.any ho I.free λ z=>(hch _ z).2.1 rfl;exact I.step (ch:=ch) hch (λ b o hL hb hc e n=>u.keep b o e n (λ z=>(List.mem_cons.mp (I.stkSub b z)).elim hL hb) hc) (λ b o _ _ hc e n=>u.any e n hc) (λ b o hc e n=>u.free b o e n hc) (λ b o hc e=>u.there b o e hc) u.tups u.frzs u.tbls (λ m' hm=>by
    obtain ⟨o',es',ep',ho',r'⟩:=hm;rw [ho] at ho';cases ho';exact ⟨_,es',ep',hL,r'⟩) hok hg
theorem Inv.turned {t':Nat} {it:Addr} (I:Inv X pins σ H s) (k:∀ b o,b≠it->s.heap.get? b=some o->h'.get? b=some o) (hn:H it=none) (hL:it≠X.env.locals)
    (h1:it∈X.ex\/X.s₀.heap.objs.size<=it) (h2:∀ x c,X.env.cells.lookup x=some c->c≠it) (h3:∀ p∈X.pn++pins,p.1≠it):Inv X pins σ H { s with heap:=h',toks:=t' }:=by
  have nit:∀ b u,H b=some u->b≠it:=λ b u e z=>by rw [z,hn] at e;cases e
  refine I.step (g':=s.gens) (d':=s.drawn) (ch:=[it]) (λ b hb=> ?_) (λ b o _ _ hc e _=>k b o (λ z=>hc (by simp [z])) e) (λ b o _ _ hc e _=>⟨o.slots,k b o (λ z=>hc (by simp [z])) e⟩) (λ _ _ _ _ n=>n)
    (λ b o hc e=>⟨o,k b o (λ z=>hc (by simp [z])) e⟩) (λ _ _ e=>e) (λ _ _ _ e=>e) (λ b ps e=>⟨#[],by rw [e];simp⟩) (λ m hm=> ?_) (λ b u e=> ?_) I.bare
  · have e:b=it:=by simpa using hb
    subst e;exact ⟨h1,hL,h2,h3⟩
  · obtain ⟨o,es,ep,ho,r⟩:=hm;exact ⟨o,es,ep,k _ o (Ne.symm hL) ho,r⟩
  · refine (I.hok b u e).stay (λ c v hc q=>k c v ?_ q) (λ _ q=>q) λ _ _ q=>q;rcases hc with z | z
    · rw [z];exact nit b u e
    · exact nit c _ z
theorem Inv.tok (I:Inv X pins σ H s) (t:Nat):Inv X pins σ H { s with toks:=t }:=I.un (h':=s.heap) (t':=t) Un.refl I.hok
theorem Inv.kept {t':Nat} (I:Inv X pins σ H s) (k:∀ b u,s.heap.get? b=some u->h'.get? b=some u):Inv X pins σ H { s with heap:=h',toks:=t' }:=I.un (Un.kept k) (I.hok.kept k)
theorem Inv.laid {a:Addr} {o:HO} {t':Nat} (I:Inv X pins σ H s) (k:∀ b u,s.heap.get? b=some u->h'.get? b=some u) (hp:s.heap.objs.size<=a) (new:ObjOk X.prog X.w (upd H a o) h' a o):
    Inv X pins σ (upd H a o) { s with heap:=h',toks:=t' }:=I.un (Un.laid k hp (I.hok.fresh hp)) (I.hok.laid k hp new)
theorem Inv.write {x e:Addr} {o:HO} {t':Nat} (I:Inv X pins σ H s) (mu:Mut (H x)) (he:e=x\/H e=some (.own x)) (k:∀ b u,b≠e->s.heap.get? b=some u->h'.get? b=some u) (heo:∃ u,h'.get? e=some u)
    (new:ObjOk X.prog X.w (upd H x o) h' x o):Inv X pins σ (upd H x o) { s with heap:=h',toks:=t' }:=I.un (Un.write mu he k heo) (I.hok.write mu he k heo new)
theorem Inv.weak {σ':List (Option V)} (I:Inv X pins σ H s) (hl:σ'.length=σ.length) (w:∀ (i:Nat) v,σ'[i]?=some (some v)->σ[i]?=some (some v)):Inv X pins σ' H s:=
  ⟨I.ok,I.os,I.bare,I.base,let ⟨m,hn,hl'⟩:=I.loc;⟨m,hn,λ i x v e1 e2 e3=>hl' i x v e1 (w i v e2) e3⟩,I.cell,I.free,I.freeC,I.pin,I.hok,hl.trans I.len⟩
theorem Inv.pins_of {pins':List (Addr × Obj)} (I:Inv X pins σ H s) (h:∀ p∈pins',s.heap.get? p.1=some p.2/\H p.1=none/\p.1≠X.env.locals/\p.1∉X.fs/\∀ v,p.2.data≠ .cell v):Inv X pins' σ H s:=
  ⟨I.ok,I.os,I.bare,I.base,I.loc,I.cell,I.free,I.freeC,λ p hp=>(List.mem_append.mp hp).elim (λ z=>I.pin p (List.mem_append_left _ z)) (h p),I.hok,I.len⟩
theorem KJ {N:List Str} (hN:N.Nodup) {i j:Nat} {x:Str} (a:N[i]?=some x) (b:N[j]?=some x):i=j:=by
  obtain ⟨h1,e1⟩:=List.getElem?_eq_some_iff.mp a;obtain ⟨h2,e2⟩:=List.getElem?_eq_some_iff.mp b;exact (List.getElem_inj hN).mp (e1.trans e2.symm)
theorem Mj {M:Model} {A:Around} {E:Value->Shared->Prop} {i:Nat} {x:Str} {v:V} {u:Value} {Q:Unit->Shared->Prop} (I:Inv X pins σ H s) (hN:X.N.Nodup) (hi:X.N[i]?=some x) (hx:Loc X.env.scope x) (r:RelV v u)
    (h:∀ s',Inv X pins (σ.set i (some v)) H s'->(∃ a,Heap.SameBut a s.heap s'.heap/\(a=X.env.locals\/X.env.cells.lookup x=some a))->Q () s') (hf:X.fn x=true\/X.env.scope.names.lookup x=some .local:=by first | exact .inl rfl | exact .inr rfl | assumption):wpAny M A (storeName X.env x u) Q E s:=by
  obtain ⟨m,hn,hl⟩:=id I.loc;have hcls:(X.env.scope.kind == .class||(X.env.scope.kind == .module&&X.env.locals != X.env.globals))=false:=by rw [I.ok.kind];rfl
  have hiσ:i<σ.length:=by rw [I.len];exact (List.getElem?_eq_some_iff.mp hi).1
  have cne:=I.cne;have tracked:∀ {a:Addr} {h':Heap},(∃ o,s.heap.get? a=some o/\H a=none)->Heap.SameBut a s.heap h'->HOk X.prog X.w H h':=λ {a h'} ha hs b ob e=>by
    obtain ⟨_,_,hfree⟩:=ha;refine (I.hok b ob e).stay (λ c w' hc q=>(hs.2 c ?_).trans q) (λ _ q=>q) λ _ _ q=>q;rintro rfl;rcases hc with rfl | hc
    · rw [hfree] at e;cases e
    · rw [hfree] at hc;cases hc
  rcases hx with hk | hk
  · refine wpAny_storeName_local hk hn (λ h' hn' hs=> ?_) hcls;obtain ⟨oL,_,_,hoL,_⟩:=id hn;refine h _ ⟨I.ok,I.os,I.bare,⟨λ b o e n hb hx=> ?_,λ b o e n hb hx=> ?_,I.base.free,λ b o e hx=> ?_,I.base.tups,I.base.frzs,I.base.tbls⟩,⟨_,hn',λ j y v' e1 e2 e3=> ?_⟩,λ y c e=> ?_,I.free,I.freeC,λ p hp=> ?_,tracked ⟨oL,hoL,I.free⟩ hs,by simpa using I.len⟩ ⟨_,hs, .inl rfl⟩
    · exact (hs.2 b (Nat.ne_of_lt (Nat.lt_of_lt_of_le (Heap.lt_size e) I.ok.above))).trans (I.base.keep b o e n hb hx)
    · obtain ⟨sl,e1⟩:=I.base.slot b o e n hb hx;exact ⟨sl,(hs.2 b (Nat.ne_of_lt (Nat.lt_of_lt_of_le (Heap.lt_size e) I.ok.above))).trans e1⟩
    · obtain ⟨o',e1⟩:=I.base.there b o e hx;exact ⟨o',(hs.2 b (Nat.ne_of_lt (Nat.lt_of_lt_of_le (Heap.lt_size e) I.ok.above))).trans e1⟩
    · by_cases hj:j=i
      · subst hj;rw [hi] at e1;cases e1;rw [List.getElem?_set_self hiσ] at e2;cases e2;exact ⟨u,r, .inl ⟨hk,by simp⟩⟩
      · rw [List.getElem?_set_ne (Ne.symm hj)] at e2;obtain ⟨u',r',q⟩:=hl j y v' e1 e2 e3;refine ⟨u',r',?_⟩;rcases q with ⟨k,e⟩ | ⟨k,c,e,z⟩
        · refine .inl ⟨k,?_⟩;have:y≠x:=λ e=>hj (KJ hN e1 (e▸hi));simp [this,e]
        · exact .inr ⟨k,c,e,z.sameBut hs (cne y c e)⟩
    · obtain ⟨w',z⟩:=I.cell y c e;exact ⟨w',z.sameBut hs (cne y c e)⟩
    · obtain ⟨e,n,ne,nf,d⟩:=I.pin p hp;exact ⟨(hs.2 p.1 ne).trans e,n,ne,nf,d⟩
  · have hfn:X.fn x=true:=by
      rcases hf with z | z
      · exact z
      · rw [z] at hk;cases hk
    obtain ⟨c,hc⟩:=I.ok.has x (.inl hk);obtain ⟨w',z⟩:=I.cell x c hc;refine wpAny_storeName_cell I.ok.kind hk hc z (λ h' hc' hs=> ?_);obtain ⟨oc,hoc,hocd⟩:=id z;refine h { s with heap:=h' } ⟨I.ok,I.os,I.bare,⟨λ b o e n hb hx=> ?_,λ b o e n hb hx=> ?_,I.base.free,λ b o e hx=> ?_,I.base.tups,I.base.frzs,I.base.tbls⟩,⟨m,hn.sameBut hs (Ne.symm (cne x c hc)),λ j y v' e1 e2 e3=> ?_⟩,λ y c' e=> ?_,I.free,I.freeC,λ p hp=> ?_,tracked ⟨oc,hoc,I.freeC x c hc⟩ hs,by simpa using I.len⟩ ⟨c,hs, .inr hc⟩
    · exact (hs.2 b (Nat.ne_of_lt (Nat.lt_of_lt_of_le (Heap.lt_size e) (I.ok.cab x c hfn hc)))).trans (I.base.keep b o e n hb hx)
    · obtain ⟨sl,e1⟩:=I.base.slot b o e n hb hx;exact ⟨sl,(hs.2 b (Nat.ne_of_lt (Nat.lt_of_lt_of_le (Heap.lt_size e) (I.ok.cab x c hfn hc)))).trans e1⟩
    · obtain ⟨o',e1⟩:=I.base.there b o e hx;exact ⟨o',(hs.2 b (Nat.ne_of_lt (Nat.lt_of_lt_of_le (Heap.lt_size e) (I.ok.cab x c hfn hc)))).trans e1⟩
    · by_cases hj:j=i
      · subst hj;rw [hi] at e1;cases e1;rw [List.getElem?_set_self hiσ] at e2;cases e2;exact ⟨u,r, .inr ⟨.inl hk,c,hc,hc'⟩⟩
      · rw [List.getElem?_set_ne (Ne.symm hj)] at e2;obtain ⟨u',r',q⟩:=hl j y v' e1 e2 e3;refine ⟨u',r',?_⟩;rcases q with q | ⟨k,c',e,z'⟩
        · exact .inl q
        · refine .inr ⟨k,c',e,z'.sameBut hs ?_⟩;rintro rfl;exact hj (KJ hN e1 (I.ok.inj _ _ _ e hc▸hi))
    · by_cases hcc:c'=c
      · subst hcc;exact ⟨_,hc'⟩
      · obtain ⟨w2,z2⟩:=I.cell y c' e;exact ⟨w2,z2.sameBut hs hcc⟩
    · obtain ⟨e,n,ne,nf,d⟩:=I.pin p hp;refine ⟨(hs.2 p.1 ?_).trans e,n,ne,nf,d⟩;intro q;rw [q,hoc] at e;have q':oc=p.2:=Option.some.inj e;exact d w' (by rw [<-q'];exact hocd)
theorem FB {M:Model} {A:Around} {E:Value->Shared->Prop} {i:Nat} {x:Str} {v:V} {u:Value} {Q:Unit->Shared->Prop} (I:Inv X pins σ H s) (hN:X.N.Nodup) (hi:X.N[i]?=some x) (hx:Loc X.env.scope x) (r:RelV v u)
    (h:∀ s',Inv X pins (σ.set i (some v)) H s'->Q () s') (hf:X.fn x=true\/X.env.scope.names.lookup x=some .local:=by first | exact .inl rfl | exact .inr rfl | assumption):wpAny M A (storeName X.env x u) Q E s:=
  Mj I hN hi hx r (λ s' I' _=>h s' I') hf
theorem Inv.call' {s':Shared} {ch:List Addr} (I:Inv X pins σ H s) (ho:s'.os=s.os) (u:Un (frs X.stack) ch H H' s.heap s'.heap) (hok:HOk X.prog X.w H' s'.heap) (hg:AllBare s'.gens)
    (hch:∀ b∈ch,(b∈X.ex\/X.s₀.heap.objs.size<=b)/\b≠X.env.locals/\(∀ x c,X.env.cells.lookup x=some c->c≠b)/\∀ p∈X.pn++pins,p.1≠b):Inv X pins σ H' s':=by
  obtain ⟨h',g',d',t',o'⟩:=s';have e:o'=s.os:=ho;subst e;exact I.call (g':=g') (t':=t') (d':=d') u hok hg hch
end
abbrev XK:=Value->Option Addr->Hp->Prop
abbrev St:=List (Option V)
abbrev VK:=V->Hp->Prop
abbrev TE:=St->Hp->VK->Prop
abbrev TT:=St->Hp->(Bool->Hp->Prop)->Prop
abbrev TA:=St->Hp->(List V->Hp->Prop)->Prop
structure Ends where
  nx:St->Hp->Prop
  rt:VK
  bk:St->Hp->Prop:=λ _ _=>False
  ct:St->Hp->Prop:=λ _ _=>False
abbrev TS:=Ends->St->Hp->Prop
def EP (X:Cx) (pins:List (Addr × Obj)) (σ:St) (Q:VK) (u:Value) (s':Shared):Prop:=∃ v H',Inv X pins σ H' s'/\RelV v u/\Q v H'
def TP (X:Cx) (pins:List (Addr × Obj)) (σ:St) (Q:Bool->Hp->Prop) (b:Bool) (s':Shared):Prop:=∃ H',Inv X pins σ H' s'/\Q b H'
def AP (X:Cx) (pins:List (Addr × Obj)) (σ:St) (Q:List V->Hp->Prop) (us:List Value) (s':Shared):Prop:=∃ vs H',Inv X pins σ H' s'/\Vals vs us/\Q vs H'
def SP (X:Cx) (pins:List (Addr × Obj)) (D:Ends) (f:Flow) (s':Shared):Prop:=
  match f with
  | .next=>∃ σ' H',Inv X pins σ' H' s'/\D.nx σ' H'
  | .brk=>∃ σ' H',Inv X pins σ' H' s'/\D.bk σ' H'
  | .cont=>∃ σ' H',Inv X pins σ' H' s'/\D.ct σ' H'
  | .ret u=>∃ v σ' H',Inv X pins σ' H' s'/\RelV v u/\D.rt v H'
def PE (X:Cx) (e:Expr) (t:TE):Prop:=
  ∀ (pins:List (Addr × Obj)) (s:Shared) (σ:St) (H:Hp) (Q:VK),Inv X pins σ H s->t σ H Q->wpAny (model X.prog X.w) X.A (eval e X.env) (EP X pins σ Q) X.xe s
def PT (X:Cx) (e:Expr) (t:TT):Prop:=
  ∀ (pins:List (Addr × Obj)) (s:Shared) (σ:St) (H:Hp) (Q:Bool->Hp->Prop),Inv X pins σ H s->t σ H Q->wpAny (model X.prog X.w) X.A (isTrue e X.env (eval e X.env)) (TP X pins σ Q) X.xe s
def PW (X:Cx) (e:Expr) (t:TT):Prop:=
  ∀ (whole:Sem Value) (pins:List (Addr × Obj)) (s:Shared) (σ:St) (H:Hp) (Q:Bool->Hp->Prop),Inv X pins σ H s->t σ H Q->wpAny (model X.prog X.w) X.A (isTrue e X.env whole) (TP X pins σ Q) X.xe s
theorem PW.pt {X:Cx} {e:Expr} {t:TT} (h:PW X e t):PT X e t:=h _
def PA (X:Cx) (es:List Expr) (t:TA):Prop:=
  ∀ (pos:Pos) (pins:List (Addr × Obj)) (s:Shared) (σ:St) (H:Hp) (Q:List V->Hp->Prop),Inv X pins σ H s->t σ H Q->wpAny (model X.prog X.w) X.A (spliced (backTo pos (starEach es X.env))) (AP X pins σ Q) X.xe s
def PS (X:Cx) (st:Stmt) (t:TS):Prop:=
  ∀ (pins:List (Addr × Obj)) (s:Shared) (σ:St) (H:Hp) (D:Ends),Inv X pins σ H s->t D σ H->wpAny (model X.prog X.w) X.A (exec st X.env) (SP X pins D) X.xe s
def PSs (X:Cx) (st:List Stmt) (t:TS):Prop:=
  ∀ (pins:List (Addr × Obj)) (s:Shared) (σ:St) (H:Hp) (D:Ends),Inv X pins σ H s->t D σ H->wpAny (model X.prog X.w) X.A (execs st X.env) (SP X pins D) X.xe s
theorem thn {α:Type} {t:Sem α} {Q Q':α->Shared->Prop} {M:Model} {A:Around} {E:Value->Shared->Prop} {s:Shared} (h:wpAny M A t Q E s) (hQ:∀ a s,Q a s->Q' a s):wpAny M A t Q' E s:=wpAny_mono h hQ λ _ _ x=>x
section
variable {X:Cx}
theorem bin {a b:Expr} {ta tb:TE} (ha:PE X a ta) (hb:PE X b tb) {pins:List (Addr × Obj)} {s:Shared} {σ:St} {H:Hp} {R:V->V->Hp->Prop} (I:Inv X pins σ H s) (h:ta σ H λ x H1=>tb σ H1 λ y H2=>R x y H2)
    {α:Type} {Q:α->Shared->Prop} {f:Value->Value->Sem α}
    (hf:∀ v u s2 x y H2,Inv X pins σ H2 s2->RelV x v->RelV y u->R x y H2->wpAny (model X.prog X.w) X.A (f v u) Q X.xe s2):
    wpAny (model X.prog X.w) X.A (eval a X.env) (λ v s₁=>wpAny (model X.prog X.w) X.A (eval b X.env) (λ u s₂=>wpAny (model X.prog X.w) X.A (f v u) Q X.xe s₂) X.xe s₁) X.xe s:=by
  refine thn (ha pins s σ H _ I h) λ v s1 ⟨x,H1,I1,r1,q1⟩=> ?_;refine thn (hb pins s1 σ H1 _ I1 q1) λ u s2 ⟨y,H2,I2,r2,q2⟩=> ?_;exact hf v u s2 x y H2 I2 r1 r2 q2
def Lb (i:Nat):TE:=λ σ H Q=>∃ v,σ[i]?=some (some v)/\Q v H
def tC (v:V):TE:=λ _ H Q=>Q v H
theorem Qn {i:Nat} {x:Str} {pos:Pos} (hN:X.N[i]?=some x) (hv:Vis X.env.scope x) (hd:(x == ("__debug__":Str))=false:=by decide) (hcd:(x == ("__classdict__":Str))=false:=by decide):PE X (.Name x pos) (Lb i):=by
  intro pins s σ H Q I h;obtain ⟨v,e,h⟩:=h;obtain ⟨m,hn,hl⟩:=I.loc;obtain ⟨u,r,l⟩:=hl i x v hN e hv;have fin:EP X pins σ Q u s:=⟨v,H,I,r,h⟩;rcases l with ⟨hk,hm⟩ | ⟨hk,c,hc,hcell⟩
  · exact wpAny_Name (wpAny_loadName_local I.ok.kind hk hn hm fin) hd
  · rcases hk with hk | hk
    · exact wpAny_Name (wpAny_loadName_cell I.ok.kind hk hc hcell fin) hd
    · exact wpAny_Name (wpAny_loadName_free I.ok.kind hk hc hcell fin hcd) hd
theorem Af {i j pos}:PE X (.Constant (.int i) j pos) (tC (.int i)):=λ _ _ _ H _ I h=>wpAny_Constant_int ⟨.int i,H,I.tok _,⟨_,rfl⟩,h⟩
theorem El {b j pos}:PE X (.Constant (.bool b) j pos) (tC (.bl b)):=λ _ _ _ H _ I h=>Constant_bool ⟨.bl b,H,I,rfl,h⟩
theorem B3 {j pos}:PE X (.Constant .none j pos) (tC .non):=λ _ _ _ H _ I h=>Constant_none ⟨.non,H,I,rfl,h⟩
theorem Ao {x j pos}:PE X (.Constant (.str x) j pos) (tC (.str x)):=λ _ _ _ H _ I h=>Calls.Constant_str ⟨.str x,H,I.tok _,⟨_,rfl⟩,h⟩
def Gl (X:Cx) (x:Str):Prop:=X.env.kindOf x=some .globalImplicit
theorem Fx {E:Value->Shared->Prop} {pins:List (Addr × Obj)} {s:Shared} {σ:St} {H:Hp} {x:Str} {u:Value} {pos:Pos} {Q:Value->Shared->Prop} (I:Inv X pins σ H s) (hg:Gl X x) (hm:X.mg x=some u) (h:Q u s)
    (hd:(x == ("__debug__":Str))=false:=by decide):wpAny (model X.prog X.w) X.A (eval (.Name x pos) X.env) Q E s:=
  Calls.Name_function_global I.ok.kind hg (Calls.loadGlobal_global (by rw [I.ok.glob];exact I.mod.glob.keeps I.bk) hm h) hd
theorem Di {E:Value->Shared->Prop} {pins:List (Addr × Obj)} {s:Shared} {σ:St} {H:Hp} {x:Str} {u:Value} {pos:Pos} {Q:Value->Shared->Prop} (I:Inv X pins σ H s) (hg:Gl X x) (hm:X.mg x=none) (hv:bootBuiltins x=some u) (h:Q u s)
    (hn:x≠"__name__":=by decide) (hd:(x == ("__debug__":Str))=false:=by decide):wpAny (model X.prog X.w) X.A (eval (.Name x pos) X.env) Q E s:=by
  obtain ⟨mb,h1,h2⟩:=I.mod.blt;exact Calls.Name_function_global I.ok.kind hg (Calls.loadGlobal_builtin (by rw [I.ok.glob];exact I.mod.glob.keeps I.bk) hm (by rw [I.ok.blt];exact h1.keeps I.bk) ((h2 x hn).trans hv) h) hd
theorem Jn {x:Str} {v:V} {u:Value} {pos:Pos} (hg:Gl X x) (hm:X.mg x=some u) (r:RelV v u) (hd:(x == ("__debug__":Str))=false:=by decide):PE X (.Name x pos) (tC v):=
  λ _ _ _ H _ I h=>Fx I hg hm ⟨v,H,I,r,h⟩ hd
theorem O7 {x:Str} {v:V} {u:Value} {pos:Pos} (hg:Gl X x) (hm:X.mg x=none) (hv:bootBuiltins x=some u) (r:RelV v u) (hn:x≠"__name__":=by decide) (hd:(x == ("__debug__":Str))=false:=by decide):PE X (.Name x pos) (tC v):=
  λ _ _ _ H _ I h=>Di I hg hm hv ⟨v,H,I,r,h⟩ hn hd
variable {a b:Expr} {ta tb:TE} {pos:Pos}
def PC (X:Cx) (op:CmpOp) (a b:Expr) (t:TE):Prop:=
  ∀ (pins:List (Addr × Obj)) (s:Shared) (σ:St) (H:Hp) (Q:VK),Inv X pins σ H s->t σ H Q->
    wpAny (model X.prog X.w) X.A (eval a X.env) (λ v s₁=>wpAny (model X.prog X.w) X.A (eval b X.env) (λ u s₂=>wpAny (model X.prog X.w) X.A (compareOp op v u) (EP X pins σ Q) X.xe s₂) X.xe s₁) X.xe s
theorem Nv (b:Expr) {op:CmpOp} (h:op≠ .In) (h2:op≠ .NotIn):behindInMarks op b=false:=by
  have e1:(op == CmpOp.In)=false:=by cases op <;> first | rfl | exact absurd rfl h
  have e2:(op == CmpOp.NotIn)=false:=by cases op <;> first | rfl | exact absurd rfl h2
  cases b <;> simp [behindInMarks,e1,e2]
def tB (t:TE):TT:=λ σ H Q=>t σ H λ x H1=>∃ c,x= .bl c/\Q c H1
theorem Xq {op:CmpOp} {t:TE} (h:PC X op a b t) (h1:behindInMarks op b=false:=by first | exact Nv _ (by decide) (by decide) | rfl):PT X (.Compare a [op] [b] pos) (tB t):=by
  intro pins s σ H Q I hw;refine wpAny_isTrue_Compare1 (thn (h pins s σ H _ I hw) λ v s1 h1=>thn h1 λ u s2 h2=>thn h2 λ c s3 ⟨x,H1,I1,r1,q1⟩=> ?_) h1;obtain ⟨d,rfl,q⟩:=q1;cases r1;exact wpAny_truthy_bool ⟨H1,I1,q⟩
theorem AT {e:Expr} {t:TE} (h:PE X e t) (he:∀ whole,isTrue e X.env whole=(do let v <-whole;standAt e.pos;holding [v] (truthy v)):=by intro _;rfl):PT X e (tB t):=by
  intro pins s σ H Q I hw;refine isTrue_plain (thn (h pins s σ H _ I hw) λ v s1 ⟨x,H1,I1,r1,q1⟩=> ?_) (he _);obtain ⟨d,rfl,q⟩:=q1;cases r1;exact wpAny_truthy_bool ⟨H1,I1,q⟩
variable {tA tB':TT} {rest:List Expr}
def S3 (t u:TT):TT:=λ σ H Q=>t σ H λ c H1=>if c=true then u σ H1 Q else Q false H1
def tOr (t u:TT):TT:=λ σ H Q=>t σ H λ c H1=>if c=true then Q true H1 else u σ H1 Q
def T3 (t:TT):TT:=λ σ H Q=>t σ H λ c H1=>Q (!c) H1
theorem Ez (ha:PT X a tA):PW X (.BoolOp .And [a] pos) tA:=by
  intro wh pins s σ H Q I h;refine isTrue_and (thn (ha pins s σ H Q I h) λ c s1 e=> ?_);cases c with
  | true=>exact isTrue_and_nil e
  | false=>exact e
theorem C5 (ha:PT X a tA):PW X (.BoolOp .Or [a] pos) tA:=by
  intro wh pins s σ H Q I h;refine isTrue_or (thn (ha pins s σ H Q I h) λ c s1 e=> ?_);cases c with
  | false=>exact isTrue_or_nil e
  | true=>exact e
theorem En (ha:PT X a tA) (hb:PW X (.BoolOp .And (b::rest) pos) tB'):PW X (.BoolOp .And (a::b::rest) pos) (S3 tA tB'):=by
  intro wh pins s σ H Q I h;refine isTrue_and (thn (ha pins s σ H _ I h) λ c s1 ⟨H1,I1,q1⟩=> ?_);cases c with
  | true=>exact hb wh pins s1 σ H1 Q I1 q1
  | false=>exact ⟨H1,I1,q1⟩
theorem EH (ha:PT X a tA) (hb:PW X (.BoolOp .Or (b::rest) pos) tB'):PW X (.BoolOp .Or (a::b::rest) pos) (tOr tA tB'):=by
  intro wh pins s σ H Q I h;refine isTrue_or (thn (ha pins s σ H _ I h) λ c s1 ⟨H1,I1,q1⟩=> ?_);cases c with
  | true=>exact ⟨H1,I1,q1⟩
  | false=>exact hb wh pins s1 σ H1 Q I1 q1
theorem BL (ha:PT X a tA):PT X (.UnaryOp .Not a pos) (T3 tA):=by
  intro pins s σ H Q I h;exact isTrue_not (ha pins s σ H (λ c H1=>Q (!c) H1) I h)
def Py (ta tb:TE):TE:=λ σ H Q=>ta σ H λ x H1=>∃ c,x= .bl c/\if c=true then tb σ H1 Q else Q (.bl false) H1
def Pz (ta:TE):TE:=λ σ H Q=>ta σ H λ x H1=>∃ c,x= .bl c/\Q (.bl (!c)) H1
theorem Du {op} {t:TE} (h:PE X a t):PE X (.BoolOp op [a] pos) t:=λ pins s σ H Q I hw=>BoolOp_one (h pins s σ H Q I hw)
theorem Cg (ha:PE X a ta) (hb:PE X (.BoolOp .And (b::rest) pos) tb):PE X (.BoolOp .And (a::b::rest) pos) (Py ta tb):=by
  intro pins s σ H Q I h;refine BoolOp_and (thn (ha pins s σ H _ I h) λ v s1 ⟨x,H1,I1,r1,q1⟩=> ?_);obtain ⟨c,rfl,q1⟩:=q1;cases r1;refine wpAny_truthy_bool ?_;cases c with
  | true=>exact hb pins s1 σ H1 Q I1 q1
  | false=>exact ⟨.bl false,H1,I1,rfl,q1⟩
theorem RM (ha:PE X a ta):PE X (.UnaryOp .Not a pos) (Pz ta):=by
  intro pins s σ H Q I h;refine UnaryOp_ (thn (ha pins s σ H _ I h) λ v s1 ⟨x,H1,I1,r1,q1⟩=> ?_);obtain ⟨c,rfl,q1⟩:=q1;cases r1;exact not_of (wpAny_truthy_bool ⟨.bl (!c),H1,I1,rfl,q1⟩)
def tIf (t:TT) (ta tb:TE):TE:=λ σ H Q=>t σ H λ c H1=>if c=true then ta σ H1 Q else tb σ H1 Q
theorem C9 {c:Expr} (hc:PT X c tA) (ha:PE X a ta) (hb:PE X b tb):PE X (.IfExp c a b pos) (tIf tA ta tb):=by
  intro pins s σ H Q I h;refine wpAny_IfExp (thn (hc pins s σ H _ I h) λ d s1 ⟨H1,I1,q1⟩=> ?_);cases d with
  | true=>exact ha pins s1 σ H1 Q I1 q1
  | false=>exact hb pins s1 σ H1 Q I1 q1
end
def SqL (K:PySem.W.Frag) (H:Hp) (a:Addr) (xs:List V):Prop:=
  Rd H a (.lst xs)\/
    ∃ (o:Obj) (its:Array Value) (n:Nat),K.lookup a=some o/\o.cls= .type "list"/\o.dict=none/\o.data= .seq its n/\its.size<=sizeLine/\Vals xs its.toList
def SqT (K:PySem.W.Frag) (H:Hp) (a:Addr) (xs:List V):Prop:=
  Rd H a (.tup xs)\/
    ∃ (o:Obj) (its:Array Value) (n:Nat),K.lookup a=some o/\o.cls= .type "tuple"/\o.data= .seq its n/\its.size<=sizeLine/\Vals xs its.toList
noncomputable def Xh:Value->Option V
  | .none=>some .non
  | .bool b=>some (.bl b)
  | .int i _=>some (.int i)
  | .str x _=>some (.str x)
  | .bytes b _=>some (.byt b)
  | .float b _=>some (.flt b)
  | .ref a=>some (.ref a)
  | .type n=>some (.ty n)
  | _=>none
theorem RelV.abs {x:V} {u:Value} (r:RelV x u):Xh u=some x:=by
  cases x with
  | non=>cases r;rfl
  | bl _=>cases r;rfl
  | int _=>obtain ⟨t,rfl⟩:=r;rfl
  | str _=>obtain ⟨t,rfl⟩:=r;rfl
  | byt _=>obtain ⟨t,rfl⟩:=r;rfl
  | flt _=>obtain ⟨t,rfl⟩:=r;rfl
  | ref _=>cases r;rfl
  | ty _=>cases r;rfl
theorem RelV.inj {x y:V} {u:Value} (r:RelV x u) (q:RelV y u):x=y:=Option.some.inj (r.abs.symm.trans q.abs)
theorem Vals.inj:∀ {xs ys:List V} {us:List Value},Vals xs us->Vals ys us->xs=ys
  | _,_,_, .nil, .nil=>rfl
  | _,_,_, .cons r t, .cons r' t'=>by rw [r.inj r',Vals.inj t t']
section
variable {X:Cx} {pins:List (Addr × Obj)} {σ:St} {H:Hp} {s:Shared} {a:Addr} {xs ys:List V}
theorem SqL.of {K:PySem.W.Frag} (h:H a=some (.lst xs)):SqL K H a xs:= .inl (.inl h)
theorem SqT.of {K:PySem.W.Frag} (h:H a=some (.tup xs)):SqT K H a xs:= .inl (.inl h)
theorem Inv.list (I:Inv X pins σ H s) (h:SqL X.K H a xs):∃ its:List Value,Vals xs its/\PlainL s.heap a its.toArray/\xs.length<=sizeLine:=by
  rcases h with h | ⟨o,its,n,hk,hc,hd,hs,hz,r⟩
  · obtain ⟨z,its,n,r,e⟩:=h.ok I.hok;exact ⟨its,r,⟨_,n,e,rfl,rfl,rfl⟩,z⟩
  · refine ⟨its.toList,r,⟨o,n,I.kIn a o hk,hc,hd,by simpa using hs⟩,?_⟩;have e:=r.length;simp only [Array.length_toList] at e;omega
theorem Inv.tuple (I:Inv X pins σ H s) (h:SqT X.K H a xs):∃ its:List Value,Vals xs its/\IsTup s.heap a its.toArray/\xs.length<=sizeLine:=by
  rcases h with h | ⟨o,its,n,hk,hc,hs,hz,r⟩
  · obtain ⟨z,its,r,p⟩:=h.ok I.hok;exact ⟨its,r,p,z⟩
  · refine ⟨its.toList,r,⟨o,I.kIn a o hk,hc,n,by simpa using hs⟩,?_⟩;have e:=r.length;simp only [Array.length_toList] at e;omega
theorem Inv.list_inj (I:Inv X pins σ H s) (h:SqL X.K H a xs) (h':SqL X.K H a ys):xs=ys:=by
  obtain ⟨its,r,⟨o,n,e,_,_,d⟩,_⟩:=I.list h;obtain ⟨its',r',⟨o',n',e',_,_,d'⟩,_⟩:=I.list h';rw [e] at e';cases e';rw [d] at d';injection d' with d1 _;have:its=its':=by simpa using congrArg Array.toList d1
  subst this;exact r.inj r'
theorem Inv.tuple_inj (I:Inv X pins σ H s) (h:SqT X.K H a xs) (h':SqT X.K H a ys):xs=ys:=by
  obtain ⟨its,r,⟨o,e,_,n,d⟩,_⟩:=I.tuple h;obtain ⟨its',r',⟨o',e',_,n',d'⟩,_⟩:=I.tuple h';rw [e] at e';cases e';rw [d] at d';injection d' with d1 _;have:its=its':=by simpa using congrArg Array.toList d1
  subst this;exact r.inj r'
end
noncomputable abbrev Cx.wish (X:Cx) (E:Value->Shared->Prop):Cx:={ X with xe:=E }
noncomputable abbrev Cx.nox (X:Cx):Cx:=X.wish λ _ _=>False
theorem Cx.Ok.wish {X:Cx} (ok:X.Ok) (E:Value->Shared->Prop):(X.wish E).Ok:=
  ⟨ok.mod,ok.kind,ok.glob,ok.blt,ok.above,ok.inj,ok.has,ok.cab,ok.hd,ok.frames,ok.stk,ok.exf,ok.bs,ok.bsz,ok.noex,ok.exfs,ok.funs,ok.frf⟩
theorem Cx.Ok.unwish {X:Cx} {E:Value->Shared->Prop} (ok:(X.wish E).Ok):X.Ok:=
  ⟨ok.mod,ok.kind,ok.glob,ok.blt,ok.above,ok.inj,ok.has,ok.cab,ok.hd,ok.frames,ok.stk,ok.exf,ok.bs,ok.bsz,ok.noex,ok.exfs,ok.funs,ok.frf⟩
section
variable {X:Cx} {pins:List (Addr × Obj)} {σ:St} {H:Hp} {s:Shared} {E:Value->Shared->Prop}
theorem Inv.wish (I:Inv X pins σ H s) (E:Value->Shared->Prop):Inv (X.wish E) pins σ H s:=⟨I.ok.wish E,I.os,I.bare,I.base,I.loc,I.cell,I.free,I.freeC,I.pin,I.hok,I.len⟩
theorem Inv.unwish (I:Inv (X.wish E) pins σ H s):Inv X pins σ H s:=⟨I.ok.unwish,I.os,I.bare,I.base,I.loc,I.cell,I.free,I.freeC,I.pin,I.hok,I.len⟩
theorem SP.unwish {D:Ends} {f:Flow} {s':Shared} (h:SP (X.wish E) pins D f s'):SP X pins D f s':=by
  cases f with
  | next=>obtain ⟨σ',H',I,q⟩:=h;exact ⟨σ',H',I.unwish,q⟩
  | brk=>obtain ⟨σ',H',I,q⟩:=h;exact ⟨σ',H',I.unwish,q⟩
  | cont=>obtain ⟨σ',H',I,q⟩:=h;exact ⟨σ',H',I.unwish,q⟩
  | ret u=>obtain ⟨v,σ',H',I,r,q⟩:=h;exact ⟨v,σ',H',I.unwish,r,q⟩
theorem PSs.nox {st:List Stmt} {t:TS} (h:PSs X.nox st t):PSs X st t:=λ pins s σ H D I hw=>
  wpAny_mono (h pins s σ H D (I.wish _) hw) (λ _ _ q=>q.unwish) λ _ _ z=>False.elim z
end
section
variable {X:Cx} {st:Stmt} {rest:List Stmt} {t u:TS} {e:Expr} {te:TE} {pos:Pos}
def PR:TS:=λ D σ H=>D.nx σ H
def Vo (t u:TS):TS:=λ D σ H=>t { D with nx:=u D } σ H
theorem Ar:PSs X [] PR:=λ _ _ σ H _ I h=>wpAny_execs_nil ⟨σ,H,I,h⟩
theorem Ac (h1:PS X st t) (h2:PSs X rest u):PSs X (st::rest) (Vo t u):=by
  intro pins s σ H D I h;refine wpAny_execs_cons (thn (h1 pins s σ H { D with nx:=u D } I h) λ f s1 q=> ?_);cases f with
  | next=>
    obtain ⟨σ',H',I',q⟩:=q;exact h2 pins s1 σ' H' D I' q
  | ret v=>exact q
  | brk=>exact q
  | cont=>exact q
theorem Ae (h1:PS X st t):PSs X [st] t:=by
  intro pins s σ H D I h;refine wpAny_execs_cons (thn (h1 pins s σ H D I h) λ f s1 q=> ?_);cases f with
  | next=>exact wpAny_execs_nil q
  | ret v=>exact q
  | brk=>exact q
  | cont=>exact q
def Ve:TS:=λ D σ H=>D.ct σ H
theorem Gk:PS X (.Continue pos) Ve:=λ _ _ σ H _ I h=>wpAny_Continue ⟨σ,H,I,h⟩
theorem Inv.quiet {pins:List (Addr × Obj)} {σ:St} {H:Hp} {s:Shared} (I:Inv X pins σ H s):interactive X.env=false:=by simp [interactive,I.ok.kind]
def Nx (te:TE):TS:=λ D σ H=>te σ H λ _ H1=>D.nx σ H1
theorem Az (he:PE X e te) (hs:swapsWith e none pos.line X.env=pure false:=by rfl):PS X (.Expr e pos) (Nx te):=by
  intro pins s σ H D I h;exact wpAny_Expr_any (thn (he pins s σ H _ I h) λ v s1 ⟨x,H1,I1,r1,q1⟩=>⟨σ,H1,I1,q1⟩) I.quiet hs
def U2 (te:TE):TS:=λ D σ H=>te σ H D.rt
theorem Al (he:PE X e te):PS X (.Return (some e) pos) (U2 te):=by
  intro pins s σ H D I h;exact wpAny_Return_some (thn (he pins s σ H _ I h) λ v s1 ⟨x,H1,I1,r1,q1⟩=>⟨x,σ,H1,I1,r1,q1⟩)
def MF (c:TT) (t u:TS):TS:=λ D σ H=>c σ H λ b H1=>if b=true then t D σ H1 else u D σ H1
theorem AB {c:Expr} {a b:List Stmt} {tc:TT} (hc:PT X c tc) (ha:PSs X a t) (hb:PSs X b u):PS X (.If c a b pos) (MF tc t u):=by
  intro pins s σ H D I h;refine wpAny_If (thn (hc pins s σ H _ I h) λ d s1 ⟨H1,I1,q1⟩=> ?_);cases d with
  | true=>exact ha pins s1 σ H1 D I1 q1
  | false=>exact hb pins s1 σ H1 D I1 q1
def Rj:TS:=λ _ _ _=>False
theorem Bg:PS X st Rj:=λ _ _ _ _ _ _ h=>h.elim
end
abbrev TG:=V->St->Hp->(St->Hp->Prop)->Prop
abbrev TGs:=List V->St->Hp->(St->Hp->Prop)->Prop
def PG (X:Cx) (target:Expr) (t:TG):Prop:=
  ∀ (pins:List (Addr × Obj)) (s:Shared) (σ:St) (H:Hp) (v:V) (u:Value) (Q:St->Hp->Prop),Inv X pins σ H s->RelV v u->t v σ H Q->
    wpAny (model X.prog X.w) X.A (assign target X.env u) (λ _ s'=>∃ σ' H',Inv X pins σ' H' s'/\Q σ' H') X.xe s
def PGs (X:Cx) (ts:List Expr) (t:TGs):Prop:=
  ∀ (pins:List (Addr × Obj)) (s:Shared) (σ:St) (H:Hp) (vs:List V) (us:List Value) (Q:St->Hp->Prop),Inv X pins σ H s->Vals vs us->t vs σ H Q->
    wpAny (model X.prog X.w) X.A (assignInOrder ((assignEach ts X.env).map (·.2)) us) (λ _ s'=>∃ σ' H',Inv X pins σ' H' s'/\Q σ' H') X.xe s
abbrev TIp:=V->V->Hp->VK->Prop
def PIp (X:Cx) (op:Operator) (t:TIp):Prop:=
  ∀ (pins:List (Addr × Obj)) (s:Shared) (σ:St) (H:Hp) (x y:V) (v u:Value) (Q:VK),Inv X pins σ H s->RelV x v->RelV y u->t x y H Q->
    wpAny (model X.prog X.w) X.A (inplaceOp op v u) (EP X pins σ Q) X.xe s
section
variable {X:Cx} {pos:Pos}
def AS (i:Nat):TG:=λ v σ H Q=>Q (σ.set i (some v)) H
theorem AK {i:Nat} {x:Str} (hN:X.N.Nodup) (hi:X.N[i]?=some x) (hx:Loc X.env.scope x) (hf:X.fn x=true\/X.env.scope.names.lookup x=some .local:=by first | exact .inl rfl | exact .inr rfl | assumption):PG X (.Name x pos) (AS i):=by
  intro pins s σ H v u Q I r h;exact wpAny_assign_Name (FB I hN hi hx r (λ s' I'=>⟨_,H,I',h⟩) hf)
def HR:TGs:=λ vs σ H Q=>vs=[]/\Q σ H
def BN (t:TG) (u:TGs):TGs:=λ vs σ H Q=>∃ v r,vs=v::r/\t v σ H λ σ' H'=>u r σ' H' Q
theorem Ft:PGs X [] HR:=by
  intro pins s σ H vs us Q I r h;obtain ⟨e,h⟩:=h;subst e;cases r;exact assignInOrder_nil ⟨σ,H,I,h⟩
theorem AY {e:Expr} {es:List Expr} {t:TG} {u:TGs} (h1:PG X e t) (h2:PGs X es u)
    (hs:(assignEach (e::es) X.env).map (·.2)=assign e X.env::(assignEach es X.env).map (·.2):=by rfl):PGs X (e::es) (BN t u):=by
  intro pins s σ H vs us Q I r h;obtain ⟨v,vr,e1,h⟩:=h;subst e1;cases r with
  | cons r rr=>
    rw [hs];refine assignInOrder_cons (thn (h1 pins s σ H _ _ _ I r h) λ _ s1 ⟨σ1,H1,I1,q1⟩=> ?_);exact h2 pins s1 σ1 H1 _ _ Q I1 rr q1
def HI (K:PySem.W.Frag) (n:Nat) (t:TGs):TG:=λ v σ H Q=>∃ a xs,v= .ref a/\SqT K H a xs/\xs.length=n/\t xs σ H Q
theorem ND {es:List Expr} {k:Nat} {t:TGs} {n:Nat} (hc:X.calm=true) (h:PGs X es t)
    (hn:(assignEach es X.env).length=n:=by rfl) (hst:(assignEach es X.env).findIdx? (·.1)=none:=by rfl):PG X (.Tuple es k pos) (HI X.K n t):=by
  intro pins s σ H v u Q I r hw;obtain ⟨a,xs,e1,hq,hl,hw⟩:=hw;subst e1;cases r;obtain ⟨its,rv,ht,hz⟩:=I.tuple hq;refine assign_Tuple_tuple (I.ok.hd hc) ht (by simp [hn, <-hl,rv.length]) hst λ h' hx=> ?_;have I1:Inv X pins σ H { s with heap:=h' }:=I.kept (t':=s.toks) λ b o e=>hx b o (Nat.ne_of_lt (Heap.lt_size e)) e;exact h pins _ σ H xs _ Q I1 (by simpa using rv) hw
def M9 (te:TE) (g:TG):TS:=λ D σ H=>te σ H λ x H1=>g x σ H1 D.nx
theorem QI {tg e:Expr} {te:TE} {g:TG} (he:PE X e te) (hg:PG X tg g) (hs:swapsWithSole [tg] e pos.line X.env=pure false:=by rfl) (hw:swappedStores [tg] e X.env=pure none:=by rfl)
    (h1:(assignEach [tg] X.env).map (·.2)=[assign tg X.env]:=by rfl):PS X (.Assign [tg] e pos) (M9 te g):=by
  intro pins s σ H D I h;refine wpAny_Assign_stores (thn (he pins s σ H _ I h) λ v s1 ⟨x,H1,I1,r1,q1⟩=> ?_) hs hw;rw [h1];exact thn (hg pins s1 σ H1 x v _ I1 r1 q1) λ _ s2 q=>q
theorem Am {i:Nat} {x:Str} {e:Expr} {te:TE} {pos':Pos} (hN:X.N.Nodup) (hi:X.N[i]?=some x) (hx:Loc X.env.scope x) (he:PE X e te) (hs:swapsWith e (some (.Name x pos')) pos.line X.env=pure false:=by rfl) (hf:X.fn x=true\/X.env.scope.names.lookup x=some .local:=by first | exact .inl rfl | exact .inr rfl | assumption):
    PS X (.Assign [.Name x pos'] e pos) (M9 te (AS i)):=by
  intro pins s σ H D I h;refine wpAny_Assign_Name (thn (he pins s σ H _ I h) λ v s1 ⟨y,H1,I1,r1,q1⟩=> ?_) hs;exact FB I1 hN hi hx r1 (λ s2 I2=>⟨_,H1,I2,q1⟩) hf
def UU (i:Nat) (te:TE) (ti:TIp):TS:=λ D σ H=>∃ x,σ[i]?=some (some x)/\te σ H λ y H1=>ti x y H1 λ z H2=>D.nx (σ.set i (some z)) H2
theorem Qx {i:Nat} {x:Str} {e:Expr} {te:TE} {op:Operator} {ti:TIp} {pos':Pos} (hN:X.N.Nodup) (hi:X.N[i]?=some x) (hx:Loc X.env.scope x) (he:PE X e te) (ho:PIp X op ti) (hf:X.fn x=true\/X.env.scope.names.lookup x=some .local:=by first | exact .inl rfl | exact .inr rfl | assumption):
    PS X (.AugAssign (.Name x pos') op e pos) (UU i te ti):=by
  intro pins s σ H D I h;obtain ⟨v,e1,h⟩:=h;obtain ⟨m,hn,hl⟩:=I.loc;have vis:Vis X.env.scope x:=by rcases hx with k | k;exact .inl k;exact .inr (.inl k)
  obtain ⟨u,r,l⟩:=hl i x v hi e1 vis;refine wpAny_AugAssign_Name ?_;have go:wpAny (model X.prog X.w) X.A (eval e X.env) (λ w s₂=>wpAny (model X.prog X.w) X.A (inplaceOp op u w) (λ r s₃=>wpAny (model X.prog X.w) X.A (storeName X.env x r) (λ _=>SP X pins D .next) X.xe s₃) X.xe s₂) X.xe s:=by
    refine thn (he pins s σ H _ I h) λ w s1 ⟨y,H1,I1,r1,q1⟩=> ?_;refine thn (ho pins s1 σ H1 v y u w _ I1 r r1 q1) λ z s2 ⟨zv,H2,I2,r2,q2⟩=> ?_;exact FB I2 hN hi hx r2 (λ s3 I3=>⟨_,H2,I3,q2⟩) hf
  rcases l with ⟨hk,hm⟩ | ⟨hk,c,hc,hcell⟩
  · exact wpAny_loadName_local I.ok.kind hk hn hm go
  · rcases hk with hk | hk
    · exact wpAny_loadName_cell I.ok.kind hk hc hcell go
    · rcases hx with k | k
      · have:X.env.scope.names.lookup x=some .free:=hk;rw [k] at this;cases this
      · have:X.env.scope.names.lookup x=some .free:=hk;rw [k] at this;cases this
end
section
variable {X:Cx} {pos:Pos}
def NP (c:TT) (tb:TS):TS:=λ D σ H=>∃ W:Nat->St->Hp->Prop,(∃ m,W m σ H)/\∀ m σ H,W m σ H->
  c σ H λ b H1=>if b=true then ∃ N:St->Hp->Prop,(∀ σ' H',N σ' H'->∃ m',m'<m/\W m' σ' H')/\tb { D with nx:=N,ct:=N,bk:=D.nx } σ H1 else D.nx σ H1
theorem JX {c:Expr} {body:List Stmt} {tc:TT} {tb:TS} (hp:PassesOwn (model X.prog X.w) X.A X.env X.xe) (hc:PT X c tc) (hb:PSs X body tb):PS X (.While c body [] pos) (NP tc tb):=by
  intro pins s σ H D I h;obtain ⟨W,⟨m0,w0⟩,turn⟩:=h;refine wpAny_While (codeAny_whileLoop (λ n s'=>∃ σ' H',Inv X pins σ' H' s'/\W n σ' H') ?_ m0 ⟨σ,H,I,w0⟩);rintro n s1 ⟨σ1,H1,I1,w1⟩;refine wpAny_passesOwn hp (thn (hc pins s1 σ1 H1 _ I1 (turn n σ1 H1 w1)) λ b s2 ⟨H2,I2,q2⟩=> ?_);cases b with
  | true=>
    obtain ⟨N,hN,q2⟩:=q2;rw [if_pos rfl];refine wpAny_passesOwn hp (thn (hb pins s2 σ1 H2 _ I2 q2) λ f s3 q3=> ?_);cases f with
    | next=>
      obtain ⟨σ3,H3,I3,n3⟩:=q3;obtain ⟨m',hm,w3⟩:=hN σ3 H3 n3;exact ⟨m',hm,σ3,H3,I3,w3⟩
    | cont=>
      obtain ⟨σ3,H3,I3,n3⟩:=q3;obtain ⟨m',hm,w3⟩:=hN σ3 H3 n3;exact ⟨m',hm,σ3,H3,I3,w3⟩
    | brk=>exact q3
    | ret v=>exact q3
  | false=>
    rw [if_neg Bool.false_ne_true];exact wpAny_execs_nil ⟨σ1,H2,I2,q2⟩
end
structure It where
  go:Nat->Hp->Prop
  yld:Nat->Hp->V->Hp->Prop
  stop:Nat->Hp->Prop
def Ed (X:Cx) (pins:List (Addr × Obj)) (H:Hp) (b:Addr):Prop:=
  H b=none/\b≠X.env.locals/\b∉X.fs/\(b∈X.ex\/X.s₀.heap.objs.size<=b)/\(∀ x c,X.env.cells.lookup x=some c->c≠b)/\∀ p∈X.pn++pins,p.1≠b
theorem Inv.fpOk {X:Cx} {pins:List (Addr × Obj)} {σ:St} {H H':Hp} {s:Shared} {b:Addr} (I:Inv X pins σ H s) (hb:s.heap.objs.size<=b) (hn:H' b=none):Ed X pins H' b:=by
  refine ⟨hn,Nat.ne_of_gt (Nat.lt_of_lt_of_le I.lt hb),I.nofs hb, .inr (Nat.le_trans I.sz hb),λ x c e z=> ?_,λ p hp z=> ?_⟩
  · obtain ⟨v,q⟩:=I.cell x c e;exact absurd (Nat.lt_of_lt_of_le q.lt (by rw [z];exact hb)) (Nat.lt_irrefl _)
  · exact absurd (Nat.lt_of_lt_of_le (Heap.lt_size (I.pin p hp).1) (by rw [z];exact hb)) (Nat.lt_irrefl _)
structure Turn (P:Program) (w:World) (K:PySem.W.Frag) (tg:Expr) (J:It) (fp:List Addr) (it:Addr) (tn:Nat->Heap->Prop):Prop where
  mem:it∈fp
  obj:∀ i h,tn i h->∀ b∈fp,∃ o,h.get? b=some o/\∀ v,o.data≠ .cell v
  keep:∀ i h h',tn i h->(∀ b∈fp,∀ o,h.get? b=some o->h'.get? b=some o)->tn i h'
  item:∀ (X:Cx),X.prog=P->X.w=w->X.K=K->X.calm=true->∀ (i:Nat) (pins:List (Addr × Obj)) (s:Shared) (σ:St) (H:Hp) (E:Value->Shared->Prop),Inv X pins σ H s->(∀ b∈fp,Ed X pins H b)->tn i s.heap->J.go i H->
    wpAny (model P w) X.A (pyNext (.ref it)) (λ r s1=>∃ u,r=some u/\
      wpAny (model P w) X.A (letOwnedTupleGo tg (.ref it) u) (λ _ s2=>∃ x H',Inv X pins σ H' s2/\RelV x u/\J.yld i H x H'/\tn (i+1) s2.heap/\∀ b∈fp,H' b=none) E s1) E s
  done:∀ (X:Cx),X.prog=P->X.w=w->X.K=K->X.calm=true->∀ (i:Nat) (pins:List (Addr × Obj)) (s:Shared) (σ:St) (H:Hp) (E:Value->Shared->Prop),Inv X pins σ H s->(∀ b∈fp,Ed X pins H b)->tn i s.heap->J.stop i H->
    wpAny (model P w) X.A (pyNext (.ref it)) (λ r s1=>r=none/\Inv X pins σ H s1) E s
  self:∀ (A:Around) (i:Nat) (s:Shared) (Q:Value->Shared->Prop) (E:Value->Shared->Prop),tn i s.heap->Q (.ref it) s->wpAny (model P w) A (pyIter (.ref it)) Q E s
abbrev TI:=St->Hp->(It->Hp->Prop)->Prop
def PIE (X:Cx) (pins:List (Addr × Obj)) (σ:St) (tg:Expr) (R:It->Hp->Prop) (itv:Value) (s2:Shared):Prop:=
  ∃ (it:Addr) (fp:List Addr) (tn:Nat->Heap->Prop) (J:It) (H':Hp),itv= .ref it/\Inv X pins σ H' s2/\Turn X.prog X.w X.K tg J fp it tn/\tn 0 s2.heap/\(∀ b∈fp,Ed X pins H' b)/\R J H'
def PI (X:Cx) (tg iter:Expr) (wi:TI):Prop:=
  ∀ (pins:List (Addr × Obj)) (s:Shared) (σ:St) (H:Hp) (R:It->Hp->Prop),Inv X pins σ H s->wi σ H R->
    wpAny (model X.prog X.w) X.A (eval iter X.env) (λ v s1=>wpAny (model X.prog X.w) X.A (pyIter v) (PIE X pins σ tg R) X.xe s1) X.xe s
theorem J6 {M:Model} {A:Around} {E:Value->Shared->Prop} {s:Shared} {tg:Expr} {it:Addr} {u:Value} {o:Obj} {n:String} {vs:Array Value} {Q:Unit->Shared->Prop} (ho:s.heap.get? it=some o) (hc:o.cls= .type n) (hd:o.data= .fields vs)
    (hn:["enumerate","zip","dict_itemiterator","dict_reverseitemiterator","odict_iterator","itertools.zip_longest","itertools.pairwise"].contains n=false) (hQ:Q () s):wpAny M A (letOwnedTupleGo tg (.ref it) u) Q E s:=by
  unfold letOwnedTupleGo;cases tg <;> first
    | exact wpAny_pure hQ
    | (cases u <;> first
        | exact wpAny_pure hQ
        | (refine wpAny_bind (wpAny_load ho ?_)
           rw [hc,hd];show wpAny M A (if (["enumerate","zip","dict_itemiterator","dict_reverseitemiterator","odict_iterator","itertools.zip_longest","itertools.pairwise"].contains n&&vs[0]? == some (rawInt _))=true then _ else _) Q E s;rw [if_neg (by intro h;rw [hn,Bool.false_and] at h;cases h)];exact wpAny_pure hQ))
noncomputable def Itl (K:PySem.W.Frag) (a:Addr):It:=
  ⟨λ i H=>∃ xs x,SqL K H a xs/\xs[i]?=some x,λ i H x H'=>H'=H/\∀ xs,SqL K H a xs->xs[i]?=some x,λ i H=>∃ xs,SqL K H a xs/\xs.length<=i⟩
noncomputable def Itt (K:PySem.W.Frag) (a:Addr):It:=
  ⟨λ i H=>∃ xs x,SqT K H a xs/\xs[i]?=some x,λ i H x H'=>H'=H/\∀ xs,SqT K H a xs->xs[i]?=some x,λ i H=>∃ xs,SqT K H a xs/\xs.length<=i⟩
noncomputable def Itr (lo:Int) (n:Nat):It:=⟨λ i _=>i<n,λ i H x H'=>H'=H/\x= .int (lo+i),λ i _=>n<=i⟩
theorem MB {P:Program} {w:World} {K:PySem.W.Frag} {tg:Expr} (a it:Addr):Turn P w K tg (Itl K a) [it] it (λ i h=>h.IsListIter it a i) where
  mem:=by simp
  obj:=λ i h st b hb=>by
    have e:b=it:=by simpa using hb
    subst e;obtain ⟨o,e,c,d⟩:=st;exact ⟨o,e,λ v z=>by rw [d] at z;cases z⟩
  keep:=λ i h h' st k=>st.at λ o e=>k it (by simp) o e
  item:=by
    intro X hP hw hK hc i pins s σ H E I hf st hg;subst hP hw hK;obtain ⟨xs,x,hq,hx⟩:=hg;obtain ⟨its,rv,p,hz⟩:=I.list hq;obtain ⟨u,hu,ru⟩:=rv.get hx;obtain ⟨f0,f1,f2,f3,f4,f5⟩:=hf it (by simp);refine wpAny_pyNext_list_item st p.isList (x:=u) (by simpa using hu) λ h' st' sb=> ?_;have I1:Inv X pins σ H { s with heap:=h' }:=I.turned (t':=s.toks) (λ b o hb e=>(sb.2 b hb).trans e) f0 f1 f3 f4 f5;obtain ⟨o,e,c,d⟩:=id st';exact ⟨u,rfl,J6 (s:={ s with heap:=h' }) e c d (by decide) ⟨x,H,I1,ru,⟨rfl,λ ys hy=>by rw [I.list_inj hy hq];exact hx⟩,st',λ b hb=>(hf b hb).1⟩⟩
  done:=by
    intro X hP hw hK hc i pins s σ H E I hf st hg;subst hP hw hK;obtain ⟨xs,hq,hx⟩:=hg;obtain ⟨its,rv,p,hz⟩:=I.list hq;obtain ⟨f0,f1,f2,f3,f4,f5⟩:=hf it (by simp);have hl:=rv.length;exact wpAny_pyNext_list_end (I.ok.hd hc) st p.isList (by simp;omega) λ h' eb=>⟨rfl,I.turned (t':=s.toks) (λ b o hb e=>eb b o hb e) f0 f1 f3 f4 f5⟩
  self:=λ _ _ _ _ _ st h=>wpAny_pyIter_listiter st h
theorem KW {P:Program} {w:World} {K:PySem.W.Frag} {tg:Expr} (a it:Addr):Turn P w K tg (Itt K a) [it] it (λ i h=>h.IsTupleIter it a i) where
  mem:=by simp
  obj:=λ i h st b hb=>by
    have e:b=it:=by simpa using hb
    subst e;obtain ⟨o,e,c,d⟩:=st;exact ⟨o,e,λ v z=>by rw [d] at z;cases z⟩
  keep:=λ i h h' st k=>st.at λ o e=>k it (by simp) o e
  item:=by
    intro X hP hw hK hc i pins s σ H E I hf st hg;subst hP hw hK;obtain ⟨xs,x,hq,hx⟩:=hg;obtain ⟨its,rv,p,hz⟩:=I.tuple hq;obtain ⟨u,hu,ru⟩:=rv.get hx;obtain ⟨f0,f1,f2,f3,f4,f5⟩:=hf it (by simp);refine wpAny_pyNext_tuple_item st (show s.heap.IsTuple a its.toArray from p) (x:=u) (by simpa using hu) λ h' st' sb=> ?_;have I1:Inv X pins σ H { s with heap:=h' }:=I.turned (t':=s.toks) (λ b o hb e=>(sb.2 b hb).trans e) f0 f1 f3 f4 f5;obtain ⟨o,e,c,d⟩:=id st';exact ⟨u,rfl,J6 (s:={ s with heap:=h' }) e c d (by decide) ⟨x,H,I1,ru,⟨rfl,λ ys hy=>by rw [I.tuple_inj hy hq];exact hx⟩,st',λ b hb=>(hf b hb).1⟩⟩
  done:=by
    intro X hP hw hK hc i pins s σ H E I hf st hg;subst hP hw hK;obtain ⟨xs,hq,hx⟩:=hg;obtain ⟨its,rv,p,hz⟩:=I.tuple hq;obtain ⟨f0,f1,f2,f3,f4,f5⟩:=hf it (by simp);have hl:=rv.length;exact wpAny_pyNext_tuple_end (I.ok.hd hc) st (show s.heap.IsTuple a its.toArray from p) (by simp;omega) λ h' eb=>⟨rfl,I.turned (t':=s.toks) (λ b o hb e=>eb b o hb e) f0 f1 f3 f4 f5⟩
  self:=λ _ _ _ _ _ st h=>wpAny_pyIter_tupleiter st h
theorem K3 {P:Program} {w:World} {K:PySem.W.Frag} {tg:Expr} (it:Addr) (lo:Int) (n:Nat):Turn P w K tg (Itr lo n) [it] it (λ i h=>IsRangeIter h it (lo+(i:Nat)*1) ((n:Int) - (i:Nat)) 1) where
  mem:=by simp
  obj:=λ i h st b hb=>by
    have e:b=it:=by simpa using hb
    subst e;exact ⟨_,st,λ v z=>by
      have z':Data.fields _=Data.cell v:=z;cases z'⟩
  keep:=λ i h h' st k=>k it (by simp) _ st
  item:=by
    intro X hP hw hK hc i pins s σ H E I hf st hg;subst hP hw hK;obtain ⟨f0,f1,f2,f3,f4,f5⟩:=hf it (by simp);have W:=Walks.range (prog:=X.prog) (w:=X.w) (I.ok.hd hc) it lo 1 n;refine W.item i s _ _ hg st λ v h' tk hv st' kk=> ?_;obtain ⟨t,rfl⟩:=hv;have I1:Inv X pins σ H { s with heap:=h',toks:=tk }:=I.turned (λ b o hb e=>kk b o (by simpa using hb) e) f0 f1 f3 f4 f5;refine ⟨_,rfl,J6 (s:={ s with heap:=h',toks:=tk }) (n:="range_iterator") st' rfl rfl (by decide) ⟨.int (lo+i),H,I1,⟨t,?_⟩,⟨rfl,rfl⟩,st',λ b hb=>(hf b hb).1⟩⟩;rw [Int.mul_one]
  done:=by
    intro X hP hw hK hc i pins s σ H E I hf st hg;subst hP hw hK;obtain ⟨f0,f1,f2,f3,f4,f5⟩:=hf it (by simp);exact wpAny_pyNext_range_end (I.ok.hd hc) st (by have:n<=i:=hg;omega) λ h' eb=>⟨rfl,I.turned (t':=s.toks) (λ b o hb e=>eb b o hb e) f0 f1 f3 f4 f5⟩
  self:=λ _ _ _ _ _ st h=>wpAny_pyIter_rangeiter st h
section
variable {X:Cx} {tg:Expr}
def Md (K:PySem.W.Frag) (tl:TE):TI:=λ σ H R=>tl σ H λ x H1=>∃ a,x= .ref a/\(∃ xs,SqL K H1 a xs)/\R (Itl K a) H1
def RC (K:PySem.W.Frag) (tl:TE):TI:=λ σ H R=>tl σ H λ x H1=>∃ a,x= .ref a/\(∃ xs,SqT K H1 a xs)/\R (Itt K a) H1
theorem OT {l:Expr} {tl:TE} (hl:PE X l tl):PI X tg l (Md X.K tl):=by
  intro pins s σ H R I h;refine thn (hl pins s σ H _ I h) λ v s1 ⟨x,H1,I1,r1,q1⟩=> ?_;obtain ⟨a,e,⟨xs,hq⟩,q⟩:=q1;subst e;cases r1;obtain ⟨its,rv,p,hz⟩:=I1.list hq;refine wpAny_pyIter_list p.isList ?_;refine ⟨s1.heap.objs.size,[s1.heap.objs.size],_,_,H1,rfl,I1.kept (t':=s1.toks) λ b o e=>Heap.get?_push_of_some _ e,MB a _,⟨_,Heap.get?_push_size _ rfl,rfl,rfl⟩,λ b hb=> ?_,q⟩;have e:b=s1.heap.objs.size:=by simpa using hb
  subst e;exact I1.fpOk (Nat.le_refl _) (I1.hok.fresh (Nat.le_refl _))
theorem Q1 {l:Expr} {tl:TE} (hl:PE X l tl):PI X tg l (RC X.K tl):=by
  intro pins s σ H R I h;refine thn (hl pins s σ H _ I h) λ v s1 ⟨x,H1,I1,r1,q1⟩=> ?_;obtain ⟨a,e,⟨xs,hq⟩,q⟩:=q1;subst e;cases r1;obtain ⟨its,rv,p,hz⟩:=I1.tuple hq;refine wpAny_pyIter_tuple (show s1.heap.IsTuple a its.toArray from p) ?_;refine ⟨s1.heap.objs.size,[s1.heap.objs.size],_,_,H1,rfl,I1.kept (t':=s1.toks) λ b o e=>Heap.get?_push_of_some _ e,KW a _,⟨_,Heap.get?_push_size _ rfl,rfl,rfl⟩,λ b hb=> ?_,q⟩;have e:b=s1.heap.objs.size:=by simpa using hb
  subst e;exact I1.fpOk (Nat.le_refl _) (I1.hok.fresh (Nat.le_refl _))
theorem Kj {pins:List (Addr × Obj)} {σ:St} {H:Hp} {s:Shared} {R:It->Hp->Prop} {E:Value->Shared->Prop} {lo hi:Int} {t u v:Tok} {tk:Nat} (I:Inv X pins σ H s) (h1: -(2 ^ 62)<=lo) (h2:lo<2 ^ 62) (h3: -(2 ^ 62)<=hi) (h4:hi<2 ^ 62)
    (q:R (Itr lo (hi - lo).toNat) H):wpAny (model X.prog X.w) X.A (pyIter (.ref s.heap.objs.size)) (PIE X pins σ tg R) E { s with heap:=s.heap.push { cls:= .type "range",data:= .fields #[.int lo t, .int hi u, .int 1 v] },toks:=tk }:=by
  refine wpAny_pyIter_range (IsRange.new ..) (small_one h1 h2 h3 h4) ?_;have I1:Inv X pins σ H { s with heap:=s.heap.push { cls:= .type "range",data:= .fields #[.int lo t, .int hi u, .int 1 v] },toks:=tk }:=I.kept λ b o e=>Heap.get?_push_of_some _ e;refine ⟨(s.heap.push { cls:= .type "range",data:= .fields #[.int lo t, .int hi u, .int 1 v] }).objs.size,[(s.heap.push { cls:= .type "range",data:= .fields #[.int lo t, .int hi u, .int 1 v] }).objs.size],_,_,H,rfl,
    I1.kept (t':=tk) λ b o e=>Heap.get?_push_of_some _ e,K3 _ lo (hi - lo).toNat,?_,λ b hb=> ?_,q⟩
  · have e1:lo+((0:Nat):Int)*1=lo:=by simp
    have e2:(((hi - lo).toNat:Nat):Int) - ((0:Nat):Int)=Builtin.Range.rangeSize lo hi 1:=by rw [rangeSize_one];split <;> omega
    show IsRangeIter _ _ (lo+((0:Nat):Int)*1) ((((hi - lo).toNat:Nat):Int) - ((0:Nat):Int)) 1;rw [e1,e2];exact Heap.get?_push_size _ rfl
  · have e:b=(s.heap.push { cls:= .type "range",data:= .fields #[.int lo t, .int hi u, .int 1 v] }).objs.size:=by simpa using hb
    subst e;exact I1.fpOk (Nat.le_refl _) (I1.hok.fresh (Nat.le_refl _))
def PF (ta:TA):TI:=λ σ H R=>ta σ H λ vs H1=>∃ j:Int,vs=[.int j]/\ -(2 ^ 62)<=j/\j<2 ^ 62/\R (Itr 0 j.toNat) H1
def P3 (ta:TA):TI:=λ σ H R=>ta σ H λ vs H1=>∃ i j:Int,vs=[.int i, .int j]/\(-(2 ^ 62)<=i/\i<2 ^ 62/\ -(2 ^ 62)<=j/\j<2 ^ 62)/\R (Itr i (j - i).toNat) H1
theorem Ey {a:Expr} {ta:TA} {p pos:Pos} (hg:Gl X "range") (hm:X.mg "range"=none) (ha:PA X [a] ta) (hs:starEach [a] X.env=[(false,eval a X.env)]:=by rfl):PI X tg (.Call (.Name "range" p) [a] [] pos) (PF ta):=by
  intro pins s σ H R I h;refine Call_ (Di I hg hm boot_range (PyProof.Rows.callWith_type1 (thn (ha pos pins s σ H _ I h) λ us s1 ⟨vs,H1,I1,r1,q1⟩=> ?_) hs rfl));obtain ⟨j,e,q1,q2,q⟩:=q1;subst e;cases r1 with
  | cons r rr=>
    cases rr;obtain ⟨t,rfl⟩:=r;exact call_range_1 (Kj I1 (by omega) (by omega) q1 q2 (by simpa using q))
theorem EB {a b:Expr} {ta:TA} {p pos:Pos} (hg:Gl X "range") (hm:X.mg "range"=none) (ha:PA X [a,b] ta) (hs:starEach [a,b] X.env=[(false,eval a X.env),(false,eval b X.env)]:=by rfl) (hs2:starEach [b] X.env=[(false,eval b X.env)]:=by rfl):
    PI X tg (.Call (.Name "range" p) [a,b] [] pos) (P3 ta):=by
  intro pins s σ H R I h;refine Call_ (Di I hg hm boot_range (PyProof.Rows.callWith_type1 (thn (ha pos pins s σ H _ I h) λ us s1 ⟨vs,H1,I1,r1,q1⟩=> ?_) (by rw [hs,hs2]) (by rw [hs2];rfl)));obtain ⟨i,j,e,⟨q1,q2,q3,q4⟩,q⟩:=q1;subst e;cases r1 with
  | cons r rr=>
    cases rr with
    | cons r' rr=>
      cases rr;obtain ⟨t,rfl⟩:=r;obtain ⟨t',rfl⟩:=r';exact call_range_2 (Kj I1 q1 q2 q3 q4 q)
def Ro (wi:TI) (g:TG) (tb:TS):TS:=λ D σ H=>wi σ H λ J H1=>∃ W:Nat->Nat->St->Hp->Prop,(∃ m,W 0 m σ H1)/\∀ i m σ H,W i m σ H->
  (J.stop i H/\D.nx σ H)\/(J.go i H/\∃ N:St->Hp->Prop,(∀ σ' H',N σ' H'->∃ m',m'<m/\W (i+1) m' σ' H')/\∀ x H',J.yld i H x H'->g x σ H' λ σ2 H2=>tb { D with nx:=N,ct:=N,bk:=D.nx } σ2 H2)
noncomputable def Hy (fp:List Addr) (h:Heap):List (Addr × Obj):=fp.filterMap λ b=>(h.get? b).map λ o=>(b,o)
theorem Dz {fp:List Addr} {h:Heap} {b:Addr} {o:Obj} (hb:b∈fp) (e:h.get? b=some o):(b,o)∈Hy fp h:=List.mem_filterMap.mpr ⟨b,hb,by rw [e];rfl⟩
theorem MO {fp:List Addr} {h:Heap} {p:Addr × Obj} (hp:p∈Hy fp h):p.1∈fp/\h.get? p.1=some p.2:=by
  obtain ⟨b,hb,e⟩:=List.mem_filterMap.mp hp;cases q:h.get? b with
  | none=>rw [q] at e;cases e
  | some o=>
    rw [q] at e;have e':(b,o)=p:=Option.some.inj e;subst e';exact ⟨hb,q⟩
theorem Inv.pinned {pins:List (Addr × Obj)} {σ:St} {H:Hp} {s:Shared} {fp:List Addr} (I:Inv X pins σ H s) (hf:∀ b∈fp,Ed X pins H b) (ho:∀ b∈fp,∃ o,s.heap.get? b=some o/\∀ v,o.data≠ .cell v):Inv X (pins++Hy fp s.heap) σ H s:=
  I.pins_of λ p hp=>(List.mem_append.mp hp).elim (λ z=>I.pin p (List.mem_append_right _ z)) λ z=>by
    obtain ⟨hb,e⟩:=MO z;obtain ⟨f0,f1,f2,_⟩:=hf p.1 hb;obtain ⟨o,e',d⟩:=ho p.1 hb;rw [e] at e';cases e';exact ⟨e,f0,f1,f2,d⟩
theorem Inv.unpinned {pins pl:List (Addr × Obj)} {σ:St} {H:Hp} {s:Shared} (I:Inv X (pins++pl) σ H s):Inv X pins σ H s:=I.pins_of λ p hp=>I.pin p (List.mem_append_right _ (List.mem_append_left _ hp))
theorem B4 {iter:Expr} {body:List Stmt} {wi:TI} {g:TG} {tb:TS} {pos:Pos} (hp:PassesOwn (model X.prog X.w) X.A X.env X.xe) (hc:X.calm=true) (hi:PI X tg iter wi) (hg:PG X tg g) (hb:PSs X body tb)
    (hs:∀ x,foldedSetIterable iter X.env x=pure x:=by intro _;rfl):PS X (.For tg iter body [] pos) (Ro wi g tb):=by
  intro pins s σ H D I h;refine wpAny_For (thn (hi pins s σ H _ I h) λ v s1 h1=>thn h1 λ itv s2 h2=> ?_) hs;obtain ⟨it,fp,tn,J,H2,e,I2,T,st2,f2,W,⟨m0,w0⟩,turn⟩:=h2;subst e;have stat:∀ {H':Hp},(∀ b∈fp,H' b=none)->∀ b∈fp,Ed X pins H' b:=λ hn b hb=>⟨hn b hb,(f2 b hb).2⟩;refine codeAny_forLoop_any (λ n s'=>∃ i σ' H',Inv X pins σ' H' s'/\tn i s'.heap/\(∀ b∈fp,H' b=none)/\W i n σ' H') ?_ m0 ⟨0,σ,H2,I2,st2,λ b hb=>(f2 b hb).1,w0⟩;rintro n s3 ⟨i,σ3,H3,I3,st3,fr3,w3⟩;rcases turn i n σ3 H3 w3 with ⟨stop,qn⟩ | ⟨go,N,hN,step⟩
  · refine wpAny_passesOwn hp (thn (T.done X rfl rfl rfl hc i pins s3 σ3 H3 X.xe I3 (stat fr3) st3 stop) λ r s4 ⟨hr,I4⟩=> ?_);subst hr;exact wpAny_execs_nil ⟨σ3,H3,I4,qn⟩
  · refine wpAny_passesOwn hp (thn (T.item X rfl rfl rfl hc i pins s3 σ3 H3 X.xe I3 (stat fr3) st3 go) λ r s4 ⟨u,hr,h4⟩=> ?_);subst hr;refine wpAny_passesOwn hp (thn h4 λ _ s5 ⟨x,H5,I5,r5,y5,st5,fr5⟩=> ?_);have I5':=I5.pinned (stat fr5) (T.obj _ _ st5);refine wpAny_passesOwn hp (thn (hg _ s5 σ3 H5 x u _ I5' r5 (step x H5 y5)) λ _ s6 ⟨σ6,H6,I6,q6⟩=> ?_);refine wpAny_passesOwn hp (thn (hb _ s6 σ6 H6 _ I6 q6) λ f s7 q7=> ?_);have again:∀ {σ7:St} {H7:Hp},Inv X (pins++Hy fp s5.heap) σ7 H7 s7->N σ7 H7->∃ m,m<n/\∃ i σ' H',Inv X pins σ' H' s7/\tn i s7.heap/\(∀ b∈fp,H' b=none)/\W i m σ' H':=λ {σ7 H7} I7 n7=>by
      obtain ⟨m',hm,w7⟩:=hN σ7 H7 n7;refine ⟨m',hm,i+1,σ7,H7,I7.unpinned,T.keep _ _ _ st5 λ b hb o e=>(I7.pin (b,o) (List.mem_append_right _ (List.mem_append_right _ (Dz hb e)))).1,λ b hb=> ?_,w7⟩;obtain ⟨o,e,d⟩:=T.obj _ _ st5 b hb;exact (I7.pin (b,o) (List.mem_append_right _ (List.mem_append_right _ (Dz hb e)))).2.1
    cases f with
    | next=>obtain ⟨σ7,H7,I7,n7⟩:=q7;exact again I7 n7
    | cont=>obtain ⟨σ7,H7,I7,n7⟩:=q7;exact again I7 n7
    | brk=>obtain ⟨σ7,H7,I7,q7⟩:=q7;exact ⟨σ7,H7,I7.unpinned,q7⟩
    | ret v=>obtain ⟨x7,σ7,H7,I7,r7,q7⟩:=q7;exact ⟨x7,σ7,H7,I7.unpinned,r7,q7⟩
end
abbrev R2:=V->V->Hp->VK->Prop
def OpR (X:Cx) (f:Value->Value->Sem Value) (r:R2):Prop:=
  ∀ (pins:List (Addr × Obj)) (s:Shared) (σ:St) (H:Hp) (x y:V) (v u:Value) (Q:VK),Inv X pins σ H s->RelV x v->RelV y u->r x y H Q->
    wpAny (model X.prog X.w) X.A (f v u) (EP X pins σ Q) X.xe s
def UnR (X:Cx) (f:Value->Sem Value) (r:V->Hp->VK->Prop):Prop:=
  ∀ (pins:List (Addr × Obj)) (s:Shared) (σ:St) (H:Hp) (x:V) (v:Value) (Q:VK),Inv X pins σ H s->RelV x v->r x H Q->
    wpAny (model X.prog X.w) X.A (f v) (EP X pins σ Q) X.xe s
def BG (X:Cx) (f:Value) (r:List V->Hp->VK->Prop):Prop:=
  ∀ (pins:List (Addr × Obj)) (s:Shared) (σ:St) (H:Hp) (xs:List V) (us:List Value) (Q:VK),Inv X pins σ H s->Vals xs us->r xs H Q->
    wpAny (model X.prog X.w) X.A (call f us) (EP X pins σ Q) X.xe s
def Xd (X:Cx) (r:V->Hp->(Bool->Hp->Prop)->Prop):Prop:=
  ∀ (pins:List (Addr × Obj)) (s:Shared) (σ:St) (H:Hp) (x:V) (v:Value) (Q:Bool->Hp->Prop),Inv X pins σ H s->RelV x v->r x H Q->
    wpAny (model X.prog X.w) X.A (truthy v) (TP X pins σ Q) X.xe s
def tOp (r:R2) (ta tb:TE):TE:=λ σ H Q=>ta σ H λ x H1=>tb σ H1 λ y H2=>r x y H2 Q
def tUn (r:V->Hp->VK->Prop) (ta:TE):TE:=λ σ H Q=>ta σ H λ x H1=>r x H1 Q
def rI (C:Int->Int->Prop) (g:Int->Int->V):R2:=λ x y H Q=>∃ i j,x= .int i/\y= .int j/\C i j/\Q (g i j) H
def rI0 (g:Int->Int->V):R2:=λ x y H Q=>∃ i j,x= .int i/\y= .int j/\Q (g i j) H
def rU (g:Int->V):V->Hp->VK->Prop:=λ x H Q=>∃ i,x= .int i/\Q (g i) H
section
variable {X:Cx} {a b c:Expr} {ta tb tc:TE} {pos:Pos}
theorem QW (ha:PE X a ta) (hb:PE X b tb) {pins:List (Addr × Obj)} {s:Shared} {σ:St} {H:Hp} {R:V->V->Hp->Prop} (I:Inv X pins σ H s)
    (h:ta σ H λ x H1=>tb σ H1 λ y H2=>R x y H2) {Q:Value->Shared->Prop} {f:Value->Value->Sem Value}
    (hf:∀ v u s2 x y H2,Inv X pins σ H2 s2->RelV x v->RelV y u->R x y H2->wpAny (model X.prog X.w) X.A (f v u) Q X.xe s2):
    wpAny (model X.prog X.w) X.A (eval a X.env) (λ v s₁=>wpAny (model X.prog X.w) X.A (eval b X.env) (λ u s₂=>wpAny (model X.prog X.w) X.A (f v u) Q X.xe s₂) X.xe s₁) X.xe s:=by
  refine thn (ha pins s σ H _ I h) λ v s1 ⟨x,H1,I1,r1,q1⟩=> ?_;refine thn (hb pins s1 σ H1 _ I1 q1) λ u s2 ⟨y,H2,I2,r2,q2⟩=> ?_;exact hf v u s2 x y H2 I2 r1 r2 q2
theorem Ak {op:Operator} {r:R2} (ho:OpR X (binaryOp op) r) (ha:PE X a ta) (hb:PE X b tb):PE X (.BinOp a op b pos) (tOp r ta tb):=by
  intro pins s σ H Q I h;exact wpAny_BinOp (QW ha hb I h λ v u s2 x y H2 I2 rx ry q=>ho pins s2 σ H2 x y v u Q I2 rx ry q)
theorem L4 {op:UnaryOp} {r:V->Hp->VK->Prop} (ho:UnR X (unaryOp op) r) (ha:PE X a ta):PE X (.UnaryOp op a pos) (tUn r ta):=by
  intro pins s σ H Q I h;exact UnaryOp_ (thn (ha pins s σ H _ I h) λ v s1 ⟨x,H1,I1,r1,q1⟩=>ho pins s1 σ H1 x v Q I1 r1 q1)
theorem opI {f:Value->Value->Sem Value} {C:Int->Int->Prop} {g:Int->Int->Int}
    (rule:∀ (i j:Int) (t u:Tok) (s:Shared) (Q:Value->Shared->Prop) (E:Value->Shared->Prop),C i j->Q (.int (g i j) s.toks) { s with toks:=s.toks+1 }->wpAny (model X.prog X.w) X.A (f (.int i t) (.int j u)) Q E s):
    OpR X f (rI C λ i j=> .int (g i j)):=by
  intro pins s σ H x y v u Q I rx ry h;obtain ⟨i,j,rfl,rfl,hc,q⟩:=h;obtain ⟨t,rfl⟩:=rx;obtain ⟨t',rfl⟩:=ry;exact rule i j t t' s _ _ hc ⟨.int (g i j),H,I.tok _,⟨_,rfl⟩,q⟩
theorem OR {f:Value->Value->Sem Value} {g:Int->Int->Int}
    (rule:∀ (i j:Int) (t u:Tok) (s:Shared) (Q:Value->Shared->Prop) (E:Value->Shared->Prop),Q (.int (g i j) s.toks) { s with toks:=s.toks+1 }->wpAny (model X.prog X.w) X.A (f (.int i t) (.int j u)) Q E s):
    OpR X f (rI0 λ i j=> .int (g i j)):=by
  intro pins s σ H x y v u Q I rx ry h;obtain ⟨i,j,rfl,rfl,q⟩:=h;obtain ⟨t,rfl⟩:=rx;obtain ⟨t',rfl⟩:=ry;exact rule i j t t' s _ _ ⟨.int (g i j),H,I.tok _,⟨_,rfl⟩,q⟩
theorem QZ {f:Value->Value->Sem Value} {g:Int->Int->Bool}
    (rule:∀ (i j:Int) (t u:Tok) (s:Shared) (Q:Value->Shared->Prop) (E:Value->Shared->Prop),Q (.bool (g i j)) s->wpAny (model X.prog X.w) X.A (f (.int i t) (.int j u)) Q E s):
    OpR X f (rI0 λ i j=> .bl (g i j)):=by
  intro pins s σ H x y v u Q I rx ry h;obtain ⟨i,j,rfl,rfl,q⟩:=h;obtain ⟨t,rfl⟩:=rx;obtain ⟨t',rfl⟩:=ry;exact rule i j t t' s _ _ ⟨.bl (g i j),H,I,rfl,q⟩
def W0 (i j:Int):Prop:=0<=j/\j<=1000000/\i.natAbs<2 ^ 64
def CMul (i j:Int):Prop:=(-(2 ^ 64)<i/\i<2 ^ 64)\/(-(2 ^ 64)<j/\j<2 ^ 64)
theorem CMul.ok {i j:Int} (h:CMul i j):IntMulOk i j:=by
  rcases h with ⟨h1,h2⟩ | ⟨h1,h2⟩
  · exact .of_left (intBits_le_64 h1 h2)
  · exact .of_right (intBits_le_64 h1 h2)
theorem KZ (k:Nat):(0:Int)<=2 ^ k:=by
  rw [two_pow_cast];exact Int.natCast_nonneg _
theorem Ay:OpR X (binaryOp .Add) (rI0 λ i j=> .int (i+j)):=OR λ _ _ _ _ _ _ _ q=>add_int q
theorem E8:OpR X (binaryOp .Sub) (rI0 λ i j=> .int (i - j)):=OR λ _ _ _ _ _ _ _ q=>sub_int q
theorem EW:OpR X (binaryOp .Mult) (rI CMul λ i j=> .int (i*j)):=opI λ _ _ _ _ _ _ _ hc q=>mul_int q hc.ok
theorem Be:OpR X (binaryOp .Mod) (rI (λ _ j=>0<j) λ i j=> .int (i%j)):=opI λ i j _ _ _ _ _ hc q=>by
  have h1:(0:Int)<j:=hc;exact mod_int' (by omega) (by rw [Int.fmod_eq_emod_of_nonneg i (by omega)];exact q)
theorem NC:OpR X (binaryOp .LShift) (rI W0 λ i j=> .int (i*2 ^ j.toNat)):=opI λ _ _ _ _ _ _ _ hc q=>lshift_int_small hc.1 hc.2.1 hc.2.2 q
theorem Qj:OpR X (binaryOp .RShift) (rI (λ _ j=>0<=j) λ i j=> .int (i / 2 ^ j.toNat)):=opI λ i j _ _ _ _ _ hc q=>
  rshift_int hc (by rw [Int.fdiv_eq_ediv_of_nonneg i (KZ _)];exact q)
theorem QJ:OpR X (binaryOp .BitAnd) (rI0 λ i j=> .int (Builtin.bitAnd i j)):=OR λ _ _ _ _ _ _ _ q=>and_int q
theorem OM:OpR X (inplaceOp .Add) (rI0 λ i j=> .int (i+j)):=OR λ _ _ _ _ _ _ _ q=>iadd_int q
theorem unI {f:Value->Sem Value} {g:Int->Int}
    (rule:∀ (i:Int) (t:Tok) (s:Shared) (Q:Value->Shared->Prop) (E:Value->Shared->Prop),Q (.int (g i) s.toks) { s with toks:=s.toks+1 }->wpAny (model X.prog X.w) X.A (f (.int i t)) Q E s):
    UnR X f (rU λ i=> .int (g i)):=by
  intro pins s σ H x v Q I rx h;obtain ⟨i,rfl,q⟩:=h;obtain ⟨t,rfl⟩:=rx;exact rule i t s _ _ ⟨.int (g i),H,I.tok _,⟨_,rfl⟩,q⟩
theorem JT:UnR X (unaryOp .USub) (rU λ i=> .int (-i)):=unI λ _ _ _ _ _ q=>neg_int q
end
noncomputable def QR:V->V->Bool
  | .non, .non=>true | .non, .int _=>true | .int _, .non=>true | .non, .bl _=>true | .bl _, .non=>true | .non, .str _=>true | .str _, .non=>true
  | .int _, .int _=>true | .bl _, .bl _=>true | .str _, .str _=>true | .byt _, .byt _=>true
  | .int _, .str _=>true | .str _, .int _=>true | .bl _, .str _=>true | .str _, .bl _=>true
  | _,_=>false
def rEq:R2:=λ x y H Q=>QR x y=true/\Q (.bl (decide (x=y))) H
def rNe:R2:=λ x y H Q=>QR x y=true/\Q (.bl (!decide (x=y))) H
theorem LT {i j:Int}:decide (V.int i=V.int j)=(i == j):=by
  rw [Bool.eq_iff_iff];simp
theorem Nw {i j:Bool}:decide (V.bl i=V.bl j)=(i == j):=by
  rw [Bool.eq_iff_iff];simp
theorem L7 {i j:Str}:decide (V.str i=V.str j)=(i == j):=by
  rw [Bool.eq_iff_iff];simp
theorem LP {i j:Array UInt8}:decide (V.byt i=V.byt j)=(i.toList == j.toList):=by
  rw [Bool.eq_iff_iff];cases i;cases j;simp
section
variable {X:Cx} {a b c:Expr} {ta tb tc:TE} {pos:Pos}
theorem AD {pins:List (Addr × Obj)} {σ:St} {H:Hp} {s:Shared} {Q:VK} {k k':Bool} (I:Inv X pins σ H s) (q:Q (.bl k) H) (e:k=k'):EP X pins σ Q (.bool k') s:=by
  subst e;exact ⟨.bl k,H,I,rfl,q⟩
theorem BH:OpR X (compareOp .Eq) rEq:=by
  intro pins s σ H x y v u Q I rx ry h;obtain ⟨hs,q⟩:=h;cases x with
  | non=>
    cases rx;cases y with
    | non=>cases ry;exact PySem.EqNone.eq_none_none (AD I q (by simp))
    | bl j=>cases ry;exact PySem.EqNone.eq_none_bool (AD I q (by simp))
    | int j=>obtain ⟨t',rfl⟩:=ry;exact PySem.EqNone.eq_none_int (AD I q (by simp))
    | str j=>obtain ⟨t',rfl⟩:=ry;exact PySem.EqNone.eq_none_str (AD I q (by simp))
    | _=>exact absurd (show false=true from hs) Bool.false_ne_true
  | bl i=>
    cases rx;cases y with
    | non=>cases ry;exact PySem.EqNone.eq_bool_none (AD I q (by simp))
    | bl j=>cases ry;exact eq_bool (AD I q Nw)
    | str j=>obtain ⟨t',rfl⟩:=ry;exact PySem.EqMixed.eq_bool_str (AD I q (by simp))
    | _=>exact absurd (show false=true from hs) Bool.false_ne_true
  | int i=>
    obtain ⟨t,rfl⟩:=rx;cases y with
    | non=>cases ry;exact PySem.EqNone.eq_int_none (AD I q (by simp))
    | int j=>obtain ⟨t',rfl⟩:=ry;exact eq_int (AD I q LT)
    | str j=>obtain ⟨t',rfl⟩:=ry;exact PySem.EqMixed.eq_int_str (AD I q (by simp))
    | _=>exact absurd (show false=true from hs) Bool.false_ne_true
  | str i=>
    obtain ⟨t,rfl⟩:=rx;cases y with
    | non=>cases ry;exact PySem.EqNone.eq_str_none (AD I q (by simp))
    | bl j=>cases ry;exact PySem.EqMixed.eq_str_bool (AD I q (by simp))
    | int j=>obtain ⟨t',rfl⟩:=ry;exact PySem.EqMixed.eq_str_int (AD I q (by simp))
    | str j=>obtain ⟨t',rfl⟩:=ry;exact eq_str (AD I q L7)
    | _=>exact absurd (show false=true from hs) Bool.false_ne_true
  | byt i=>
    obtain ⟨t,rfl⟩:=rx;cases y with
    | byt j=>obtain ⟨t',rfl⟩:=ry;exact PySem.W.eq_bytes (AD I q LP)
    | _=>exact absurd (show false=true from hs) Bool.false_ne_true
  | _=>cases y <;> exact absurd (show false=true from hs) Bool.false_ne_true
theorem IL:OpR X (compareOp .NotEq) rNe:=by
  intro pins s σ H x y v u Q I rx ry h;obtain ⟨hs,q⟩:=h;cases x with
  | non=>
    cases rx;cases y with
    | non=>cases ry;exact PySem.EqNone.ne_none_none (AD I q (by simp))
    | bl j=>cases ry;exact PySem.EqNone.ne_none_bool (AD I q (by simp))
    | int j=>obtain ⟨t',rfl⟩:=ry;exact PySem.EqNone.ne_none_int (AD I q (by simp))
    | str j=>obtain ⟨t',rfl⟩:=ry;exact PySem.EqNone.ne_none_str (AD I q (by simp))
    | _=>exact absurd (show false=true from hs) Bool.false_ne_true
  | bl i=>
    cases rx;cases y with
    | non=>cases ry;exact PySem.EqNone.ne_bool_none (AD I q (by simp))
    | bl j=>cases ry;exact ne_bool (AD I q (congrArg not Nw))
    | str j=>obtain ⟨t',rfl⟩:=ry;exact PySem.EqMixed.ne_bool_str (AD I q (by simp))
    | _=>exact absurd (show false=true from hs) Bool.false_ne_true
  | int i=>
    obtain ⟨t,rfl⟩:=rx;cases y with
    | non=>cases ry;exact PySem.EqNone.ne_int_none (AD I q (by simp))
    | int j=>obtain ⟨t',rfl⟩:=ry;exact ne_int (AD I q (congrArg not LT))
    | str j=>obtain ⟨t',rfl⟩:=ry;exact PySem.EqMixed.ne_int_str (AD I q (by simp))
    | _=>exact absurd (show false=true from hs) Bool.false_ne_true
  | str i=>
    obtain ⟨t,rfl⟩:=rx;cases y with
    | non=>cases ry;exact PySem.EqNone.ne_str_none (AD I q (by simp))
    | bl j=>cases ry;exact PySem.EqMixed.ne_str_bool (AD I q (by simp))
    | int j=>obtain ⟨t',rfl⟩:=ry;exact PySem.EqMixed.ne_str_int (AD I q (by simp))
    | str j=>obtain ⟨t',rfl⟩:=ry;exact ne_str (AD I q (congrArg not L7))
    | _=>exact absurd (show false=true from hs) Bool.false_ne_true
  | byt i=>
    obtain ⟨t,rfl⟩:=rx;cases y with
    | byt j=>obtain ⟨t',rfl⟩:=ry;exact PySem.W.ne_bytes (AD I q (congrArg not LP))
    | _=>exact absurd (show false=true from hs) Bool.false_ne_true
  | _=>cases y <;> exact absurd (show false=true from hs) Bool.false_ne_true
theorem Kx:OpR X (compareOp .Lt) (rI0 λ i j=> .bl (decide (i<j))):=QZ λ _ _ _ _ _ _ _ q=>lt_int q
theorem Ny:OpR X (compareOp .LtE) (rI0 λ i j=> .bl (decide (i<=j))):=QZ λ _ _ _ _ _ _ _ q=>le_int q
theorem DN:OpR X (compareOp .Gt) (rI0 λ i j=> .bl (decide (j<i))):=QZ λ _ _ _ _ _ _ _ q=>gt_int q
theorem IK:OpR X (compareOp .In) (λ x y H Q=>∃ i j,x= .str i/\y= .str j/\Q (.bl (!(Builtin.Str.occurrences j i 0 j.length 1).isEmpty)) H):=by
  intro pins s σ H x y v u Q I rx ry h;obtain ⟨i,j,rfl,rfl,q⟩:=h;obtain ⟨t,rfl⟩:=rx;obtain ⟨t',rfl⟩:=ry;exact in_str (AD I q rfl)
theorem Lf:OpR X (compareOp .Is) (λ x y H Q=>y= .non/\Q (.bl (decide (x= .non))) H):=by
  intro pins s σ H x y v u Q I rx ry h;obtain ⟨rfl,q⟩:=h;cases ry;refine is_none_gen (AD I q ?_);cases x <;> first
    | (cases rx;rfl)
    | (obtain ⟨t,rfl⟩:=rx;rfl)
theorem OP:OpR X (compareOp .IsNot) (λ x y H Q=>y= .non/\Q (.bl (!decide (x= .non))) H):=by
  intro pins s σ H x y v u Q I rx ry h;obtain ⟨rfl,q⟩:=h;cases ry;refine isnot_none_gen (AD I q ?_);cases x <;> first
    | (cases rx;rfl)
    | (obtain ⟨t,rfl⟩:=rx;rfl)
theorem Jv:OpR X (compareOp .NotIn) (λ x y H Q=>∃ i j,x= .str i/\y= .str j/\Q (.bl (!(!(Builtin.Str.occurrences j i 0 j.length 1).isEmpty))) H):=by
  intro pins s σ H x y v u Q I rx ry h;obtain ⟨i,j,rfl,rfl,q⟩:=h;obtain ⟨t,rfl⟩:=rx;obtain ⟨t',rfl⟩:=ry;exact notIn_str (AD I q rfl)
theorem Aq (b:Expr) {op:CmpOp} (h:op≠ .In:=by decide) (h2:op≠ .NotIn:=by decide):behindInMarks op b=false:=by
  have e1:(op == CmpOp.In)=false:=by cases op <;> first | rfl | exact absurd rfl h
  have e2:(op == CmpOp.NotIn)=false:=by cases op <;> first | rfl | exact absurd rfl h2
  cases b <;> simp [behindInMarks,e1,e2]
theorem A6 {op:CmpOp} {r:R2} (ho:OpR X (compareOp op) r) (ha:PE X a ta) (hb:PE X b tb) (hm:behindInMarks op b=false):PE X (.Compare a [op] [b] pos) (tOp r ta tb):=by
  intro pins s σ H Q I h;exact wpAny_Compare1 (QW ha hb I h λ v u s2 x y H2 I2 rx ry q=>ho pins s2 σ H2 x y v u Q I2 rx ry q) hm
def P2 (t:TE):TT:=λ σ H Q=>t σ H λ x H'=>∃ k,x= .bl k/\Q k H'
theorem An {op:CmpOp} {r:R2} (ho:OpR X (compareOp op) r) (ha:PE X a ta) (hb:PE X b tb) (hm:behindInMarks op b=false):PT X (.Compare a [op] [b] pos) (P2 (tOp r ta tb)):=by
  intro pins s σ H Q I h;refine wpAny_isTrue_Compare1 (thn (ha pins s σ H _ I h) λ v s1 ⟨x,H1,I1,r1,q1⟩=>thn (hb pins s1 σ H1 _ I1 q1) λ u s2 ⟨y,H2,I2,r2,q2⟩=>
    thn (ho pins s2 σ H2 x y v u _ I2 r1 r2 q2) λ c s3 ⟨z,H3,I3,r3,k,e,q3⟩=> ?_) hm
  subst e;cases r3;exact wpAny_truthy_bool ⟨H3,I3,q3⟩
def Nb (r r':R2) (ta tb tc:TE):TE:=λ σ H Q=>ta σ H λ x H1=>tb σ H1 λ y H2=>r x y H2 λ z H3=>∃ k,z= .bl k/\
  (if k=true then tc σ H3 λ w' H4=>r' y w' H4 Q else Q (.bl false) H3)
theorem Na {op op':CmpOp} {r r':R2} (ho:OpR X (compareOp op) r) (ho':OpR X (compareOp op') r') (ha:PE X a ta) (hb:PE X b tb) (hc:PE X c tc)
    (hm:lastMarks [op,op'] [b,c]=false:=by with_unfolding_all rfl):PE X (.Compare a [op,op'] [b,c] pos) (Nb r r' ta tb tc):=by
  intro pins s σ H Q I h;refine Compare_chain (thn (ha pins s σ H _ I h) λ v s1 ⟨x,H1,I1,r1,q1⟩=>chain_link (thn (hb pins s1 σ H1 _ I1 q1) λ u s2 ⟨y,H2,I2,r2,q2⟩=>
    thn (ho pins s2 σ H2 x y v u _ I2 r1 r2 q2) λ d s3 ⟨z,H3,I3,r3,k,e,q3⟩=> ?_)) hm
  subst e;cases r3;refine wpAny_truthy_bool ?_;cases k with
  | false=>exact ite_ff ⟨.bl false,H3,I3,rfl,q3⟩
  | true=>exact ite_tt (chain_last (thn (hc pins s3 σ H3 _ I3 q3) λ w' s4 ⟨z',H4,I4,r4,q4⟩=>ho' pins s4 σ H4 y z' u w' Q I4 r2 r4 q4))
def W3 (K:PySem.W.Frag) (x:V) (H:Hp) (k:Bool):Prop:=
  match x with
  | .non=>k=false
  | .bl b=>k=b
  | .int i=>k=(i != 0)
  | .str y=>y.length<=sizeLine/\k=((y.length:Int) != 0)
  | .byt y=>y.size<=sizeLine/\k=((y.size:Int) != 0)
  | .ref p=>(∃ xs,SqL K H p xs/\k= !xs.isEmpty)\/(∃ xs,SqT K H p xs/\k= !xs.isEmpty)\/∃ kvs,H p=some (.dK kvs)/\k= !kvs.isEmpty
  | _=>False
theorem KQ {κ:Type} {kvs:List (κ × V)} {vs:List (κ × Value)} (r:KV kvs vs):(!vs.isEmpty)= !kvs.isEmpty:=by
  cases r <;> rfl
theorem HJ {xs:List V} {its:List Value} (r:Vals xs its):(!its.toArray.isEmpty)= !xs.isEmpty:=by
  cases r <;> simp
theorem Hc:(sizeLine:Nat)<2 ^ 63:=by rw [sizeLine_eq];decide
theorem WX:Xd X (λ x H Q=>∃ k,W3 X.K x H k/\Q k H):=by
  intro pins s σ H x v Q I rx h;obtain ⟨k,e,q⟩:=h;have hl:=Hc;have hs:sizeLine=16777216:=sizeLine_eq;cases x with
  | non=>
    cases rx;have e':k=false:=e;subst e';exact truthy_none ⟨H,I,q⟩
  | bl b=>
    cases rx;have e':k=b:=e;subst e';exact wpAny_truthy_bool ⟨H,I,q⟩
  | int i=>
    obtain ⟨t,rfl⟩:=rx;have e':k=(i != 0):=e;subst e';exact PySem.P.truthy_int ⟨H,I,q⟩
  | str y=>
    obtain ⟨t,rfl⟩:=rx;obtain ⟨hy,e'⟩:y.length<=sizeLine/\k=((y.length:Int) != 0):=e;subst e';exact PySem.P.truthy_str (by omega) ⟨H,I.tok _,q⟩
  | byt y=>
    obtain ⟨t,rfl⟩:=rx;obtain ⟨hy,e'⟩:y.size<=sizeLine/\k=((y.size:Int) != 0):=e;subst e';exact PySem.W.truthy_bytes (by omega) ⟨H,I.tok _,q⟩
  | ref p=>
    cases rx;have e':(∃ xs,SqL X.K H p xs/\k= !xs.isEmpty)\/(∃ xs,SqT X.K H p xs/\k= !xs.isEmpty)\/∃ kvs,H p=some (.dK kvs)/\k= !kvs.isEmpty:=e;rcases e' with ⟨xs,hx,e'⟩ | ⟨xs,hx,e'⟩ | ⟨kvs,hx,e'⟩
    · subst e';obtain ⟨its,r,pl,hz⟩:=I.list hx;have hlen:=r.length;exact wpAny_truthy_list pl.isList (by simp only [List.size_toArray];omega) ⟨H,I.tok _,by rw [HJ r];exact q⟩
    · subst e';obtain ⟨its,r,pl,hz⟩:=I.tuple hx;have hlen:=r.length;exact truthy_tuple pl (by simp only [List.size_toArray];omega) ⟨H,I.tok _,by rw [HJ r];exact q⟩
    · subst e';obtain ⟨hz,hS,vs,r,m⟩:kvs.length<=sizeLine/\(p == sysModules)=false/\∃ vs,KV kvs vs/\s.heap.DictOf (Bj X.prog X.w) p vs:=I.hok p _ hx;have hlen:kvs.length=vs.length:=Paired.length r;exact wpAny_truthy_dict hS m (by omega) ⟨H,I.tok _,by rw [KQ r];exact q⟩
  | _=>exact (show False from e).elim
theorem G1:OpR X (binaryOp .Add) (λ x y H Q=>∃ i j,x= .str i/\y= .str j/\i.length+j.length<=sizeLine/\Q (.str (i++j)) H):=by
  intro pins s σ H x y v u Q I rx ry h;obtain ⟨i,j,rfl,rfl,hz,q⟩:=h;obtain ⟨t,rfl⟩:=rx;obtain ⟨t',rfl⟩:=ry;exact add_str (λ t' tk=>⟨.str (i++j),H,I.tok _,⟨_,rfl⟩,q⟩) hz
theorem EJ {x:V} {us:List Value} (r:Vals [x] us):∃ u,us=[u]/\RelV x u:=by
  cases r with
  | cons r1 r2=>cases r2;exact ⟨_,rfl,r1⟩
theorem PV {x y:V} {us:List Value} (r:Vals [x,y] us):∃ u w',us=[u,w']/\RelV x u/\RelV y w':=by
  cases r with
  | cons r1 r2=>
    cases r2 with
    | cons r3 r4=>cases r4;exact ⟨_,_,rfl,r1,r3⟩
theorem Mq:BG X (.type "int") (λ xs H Q=>(∃ i,xs=[.int i]/\Q (.int i) H)\/∃ k,xs=[.bl k]/\Q (.int (if k then 1 else 0)) H):=by
  intro pins s σ H xs us Q I r h;rcases h with ⟨i,rfl,q⟩ | ⟨k,rfl,q⟩
  · obtain ⟨u,rfl,t,rfl⟩:=EJ r;exact call_int_int ⟨.int i,H,I,⟨_,rfl⟩,q⟩
  · obtain ⟨u,rfl,r1⟩:=EJ r;cases r1;exact call_int_bool ⟨.int (if k then 1 else 0),H,I.tok _,⟨_,rfl⟩,q⟩
theorem JG:BG X (.type "str") (λ xs H Q=>∃ i,xs=[.int i]/\i.natAbs.log2<1920/\Q (.str (toString i)) H):=by
  intro pins s σ H xs us Q I r h;obtain ⟨i,rfl,hz,q⟩:=h;obtain ⟨u,rfl,t,rfl⟩:=EJ r;exact PySem.P.str_of_int hz ⟨.str _,H,I.tok _,⟨_,rfl⟩,q⟩
def Vy (K:PySem.W.Frag) (x:V) (H:Hp) (n:Nat):Prop:=
  match x with
  | .str y=>y.length<=sizeLine/\n=y.length
  | .byt y=>y.size<=sizeLine/\n=y.size
  | .ref p=>(∃ xs,SqL K H p xs/\n=xs.length)\/∃ xs,SqT K H p xs/\n=xs.length
  | _=>False
theorem NR:BG X (.builtin "len") (λ xs H Q=>∃ x n,xs=[x]/\Vy X.K x H n/\Q (.int n) H):=by
  intro pins s σ H xs us Q I r h;obtain ⟨x,n,rfl,e,q⟩:=h;obtain ⟨u,rfl,rx⟩:=EJ r;have hl:=Hc;have hs:sizeLine=16777216:=sizeLine_eq;cases x with
  | str y=>
    obtain ⟨t,rfl⟩:=rx;obtain ⟨hy,e'⟩:y.length<=sizeLine/\n=y.length:=e;subst e';exact len_str (by omega) ⟨.int _,H,I.tok _,⟨_,rfl⟩,q⟩
  | byt y=>
    obtain ⟨t,rfl⟩:=rx;obtain ⟨hy,e'⟩:y.size<=sizeLine/\n=y.size:=e;subst e';exact PySem.W.len_bytes (by omega) ⟨.int _,H,I.tok _,⟨_,rfl⟩,q⟩
  | ref p=>
    cases rx;have e':(∃ xs,SqL X.K H p xs/\n=xs.length)\/∃ xs,SqT X.K H p xs/\n=xs.length:=e;rcases e' with ⟨xs,hx,e'⟩ | ⟨xs,hx,e'⟩
    · subst e';obtain ⟨its,r',pl,hz⟩:=I.list hx;have hlen:=r'.length;exact Calls.call_len_list pl.isList (by simp only [List.size_toArray];omega) ⟨.int xs.length,H,I.tok _,⟨_,by simp only [List.size_toArray];rw [hlen]⟩,q⟩
    · subst e';obtain ⟨its,r',pl,hz⟩:=I.tuple hx;have hlen:=r'.length;exact len_tuple pl (by simp only [List.size_toArray];omega) ⟨.int xs.length,H,I.tok _,⟨_,by simp only [List.size_toArray];rw [hlen]⟩,q⟩
  | _=>exact (show False from e).elim
end
structure ObjM (h:Heap) (x dx C:Addr) (mA:Str->Option Value):Prop where
  obj:h.get? x=some (PySem.W.instObj C dx)
  ns:h.Ns1 dx mA
  ne:dx≠x
theorem MJ {h:Heap} {dx:Addr} {mA:Str->Option Value} (n:h.Ns1 dx mA):∃ od,h.get? dx=some od/\∀ name,PySem.W.lookIn name od=some (mA name):=by
  obtain ⟨o,es,ep,ho,hd,hk,_,hm⟩:=n;refine ⟨o,ho,λ name=> ?_⟩;have e:=hm name;unfold nsFind findBy at e;rw [<-Array.find?_toList] at e;unfold PySem.W.lookIn;rw [hd];dsimp only;split
  · rename_i y q
    rw [q] at e;exact congrArg some e
  · rename_i q
    rw [q] at e;have a:es.toList.any (·.refKey)=false:=by
      rw [List.any_eq_false];intro y hy;obtain ⟨z,t,hkey⟩:=hk y (Array.mem_toList_iff.mp hy);simp [DictEntry.refKey,hkey]
    have a':¬ es.toList.any (·.refKey)=true:=by rw [a];exact Bool.false_ne_true
    rw [if_neg a'];exact congrArg some e
theorem ObjM.look {h:Heap} {x dx C:Addr} {mA:Str->Option Value} (I:ObjM h x dx C mA):∃ od,PySem.W.InstAt h x (PySem.W.instObj C dx) C (some od)/\∀ name,PySem.W.lookIn name od=some (mA name):=
  let ⟨od,ho,hl⟩:=MJ I.ns
  ⟨od,⟨I.obj,rfl,rfl,ho⟩,hl⟩
section
variable {prog:Program} {w:World} {A:Around} {E:Value->Shared->Prop} {s:Shared} {K:PySem.W.Frag} {x dx C f:Addr} {mA:Str->Option Value} {name:Str} {v:Value}
theorem Pc {expr:Bool} {Q:Value->Shared->Prop} (X:K.In s.heap) (I:ObjM s.heap x dx C mA) (hg:PySem.W.plainGet K C name=true) (hh:PySem.W.hasDictIn K C=true)
    (ha:PySem.W.findIn K (.ref C) name=some none) (hv:mA name=some v) (hv':PySem.W.handedIn v=true) (h:Q v { s with toks:=s.toks+1 }):
    wpAny (model prog w) A (getAttr (.ref x) name expr) Q E s:=by
  obtain ⟨od,J,hl⟩:=I.look;exact PySem.W.get_value X J (PySem.W.plainGet_of hg).1 (PySem.W.findObj_own hh ha rfl (by rw [hl,hv])) hv' h
theorem NM {pl:Sem Bool} {Q:Value × List Value->Shared->Prop} (X:K.In s.heap) (I:ObjM s.heap x dx C mA) (hg:PySem.W.plainGet K C name=true)
    (hf:PySem.W.findIn K (.ref C) name=some (some (.ref f))) (ht:PySem.W.isFn K (.ref f)=true) (hv:mA name=none) (h:Q (.ref f,[.ref x]) s):
    wpAny (model prog w) A (getMethod (.ref x) name pl) Q E s:=by
  obtain ⟨od,J,hl⟩:=I.look;exact PySem.W.method_fn X J (PySem.W.plainGet_of hg).1 (PySem.W.plainGet_of hg).2 hf (beq_iff_eq.mp ht) (by show (PySem.W.lookIn name od).map (·.isSome)=some false;rw [hl,hv];rfl) h
theorem ON {ns:List Str} {Q:Unit->Shared->Prop} (X:K.In s.heap) (I:ObjM s.heap x dx C mA)
    (hs:PySem.W.findIn K (.ref C) "__setattr__"=some (some (.builtin "object.__setattr__"))) (hp:PySem.W.plainOver K C=true) (ht:PySem.W.takerIn K C name=some none) (hh:PySem.W.hasDictIn K C=true)
    (hw:PySem.Within mA ns) (hsz:ns.length<=sizeLine)
    (h:∀ h',ObjM h' x dx C (λ y=>if y=name then some v else mA y)->Heap.SameBut dx s.heap h'->Q () { s with heap:=h',toks:=s.toks+2 }):
    wpAny (model prog w) A (setAttr (.ref x) name v) Q E s:=by
  obtain ⟨od,J,hl⟩:=I.look;refine PySem.W.set_plain X J hs (PySem.W.osa_open (s:={ s with toks:=s.toks+1 }) (r:=none) X J hp ht λ b=> ?_);obtain ⟨cd,hc,hd'⟩:=PySem.W.any_some hh;have hx:s.heap.get? x=some ⟨.ref C,some dx, .plain, #[]⟩:=I.obj;refine wpAny_bind (wpAny_pure (wpAny_bind (wpAny_bind (wpAny_loadPart hx (wpAny_bind (PySem.W.Looks.here (s:={ s with toks:=s.toks+1 }) (PySem.W.looks_clsIn X hc) ?_))))));rw [hd'];refine wpAny_pure (a:=some dx) (wpAny_bind (wpAny_pure (wpAny_bind ?_)));refine wpAny_nsSet1 (s:={ s with toks:=s.toks+1 }) I.ns λ h' hn2 hs2=> ?_;obtain ⟨oD,esD,epD,hoD,hdD,hcD⟩:=hn2.count (PySem.Within.cons name v hw);refine wpAny_bind (wpAny_lookBehind hoD (by rw [hdD];exact pastItsLine_dict (Nat.le_trans hcD (by rw [List.length_cons];omega))) ?_);exact wpAny_pure (h _ ⟨(hs2.2 _ (Ne.symm I.ne)).trans I.obj,hn2,I.ne⟩ hs2)
theorem N9 {R:Result->Shared->Prop} {vs:List Value} {kw:List (Str × Value)} (X:K.In s.heap) (hm:PySem.W.makesIn K C=true)
    (hi:PySem.W.findIn K (.ref C) "__init__"=some (some (.ref f))) (hf:PySem.W.typeIn K (.ref f)=some (.type "function"))
    (h:codeAny (model prog w) (A.under (.builtin "type.__call__" ⟨.ref C::vs,kw⟩)) (.call (.ref f) ⟨.ref (s.heap.objs.size+1)::vs,kw⟩) (PySem.W.InitBack (s.heap.objs.size+1) R)
      { s with heap:=(s.heap.push PySem.W.emptyDict).push (PySem.W.instObj C s.heap.objs.size) }):
    codeAny (model prog w) A (.call (.ref C) ⟨vs,kw⟩) R s:=by
  obtain ⟨hh,g,d,t,os⟩:=s;exact PySem.W.make_core (PySem.W.makes_of X hm) (PySem.W.looks_findIn X hi) (λ self=>PySem.W.bind_fn X self hf) (.inl rfl) h
end
noncomputable def A1 (f:Str) (v:V):List (Str × V)->List (Str × V)
  | []=>[(f,v)]
  | (g,x)::r=>if g=f then (g,v)::r else (g,x)::A1 f v r
theorem Gs (f g:Str) (v:V):∀ fs:List (Str × V),(A1 f v fs).lookup g=if g=f then some v else fs.lookup g
  | []=>by
    show List.lookup g [(f,v)]=_;by_cases h:g=f
    · have hb:(g == f)=true:=beq_iff_eq.mpr h;simp only [List.lookup,hb,if_pos h]
    · have hb:(g == f)=false:=beq_eq_false_iff_ne.mpr h;simp only [List.lookup,hb,if_neg h]
  | (k,x)::r=>by
    have ih:=Gs f g v r;rw [show A1 f v ((k,x)::r)=(if k=f then (k,v)::r else (k,x)::A1 f v r) from rfl];by_cases hk:k=f
    · rw [if_pos hk];by_cases h:g=k
      · have hb:(g == k)=true:=beq_iff_eq.mpr h;simp only [List.lookup,hb,if_pos (h.trans hk)]
      · have hb:(g == k)=false:=beq_eq_false_iff_ne.mpr h;simp only [List.lookup,hb,if_neg (λ e:g=f=>h (e.trans hk.symm))]
    · rw [if_neg hk];by_cases h:g=k
      · have hb:(g == k)=true:=beq_iff_eq.mpr h;simp only [List.lookup,hb,if_neg (λ e:g=f=>hk (h.symm.trans e))]
      · have hb:(g == k)=false:=beq_eq_false_iff_ne.mpr h;simp only [List.lookup,hb];exact ih
theorem FZ (f:Str) (v:V):∀ fs:List (Str × V),f∈(A1 f v fs).map (·.1)/\∀ g,g∈fs.map (·.1)->g∈(A1 f v fs).map (·.1)
  | []=>⟨by simp [A1],λ g h=>by simp at h⟩
  | (k,x)::r=>by
    obtain ⟨i1,i2⟩:=FZ f v r;rw [show A1 f v ((k,x)::r)=(if k=f then (k,v)::r else (k,x)::A1 f v r) from rfl];by_cases hk:k=f
    · rw [if_pos hk];subst hk;exact ⟨by simp,λ g h=>by simpa using h⟩
    · rw [if_neg hk];refine ⟨?_,λ g h=> ?_⟩
      · rw [List.map_cons];exact List.mem_cons_of_mem _ i1
      · rw [List.map_cons] at h ⊢;rcases List.mem_cons.mp h with e | e
        · exact List.mem_cons.mpr (.inl e)
        · exact List.mem_cons_of_mem _ (i2 g e)
theorem Gi (f:Str) (v:V):∀ fs:List (Str × V),(A1 f v fs).length<=fs.length+1
  | []=>by simp [A1]
  | (k,x)::r=>by
    have ih:=Gi f v r;rw [show A1 f v ((k,x)::r)=(if k=f then (k,v)::r else (k,x)::A1 f v r) from rfl];by_cases hk:k=f
    · rw [if_pos hk,List.length_cons,List.length_cons];omega
    · rw [if_neg hk,List.length_cons,List.length_cons];omega
theorem RelO.some_of {v:V} {o:Option Value} (r:RelO (some v) o):∃ u,o=some u/\RelV v u:=by
  cases o with
  | none=>exact (show False from r).elim
  | some u=>exact ⟨u,rfl,r⟩
theorem RelO.none_of {o:Option Value} (r:RelO none o):o=none:=by
  cases o with
  | none=>rfl
  | some u=>exact (show False from r).elim
theorem MD {v:V} {u:Value} (r:RelV v u):PySem.W.handedIn u=true:=by
  cases v with
  | non=>cases (show u=Value.none from r);rfl
  | bl b=>cases (show u=Value.bool b from r);rfl
  | int i=>obtain ⟨t,e⟩:=(show ∃ t,u=Value.int i t from r);cases e;rfl
  | str x=>obtain ⟨t,e⟩:=(show ∃ t,u=Value.str x t from r);cases e;rfl
  | byt b=>obtain ⟨t,e⟩:=(show ∃ t,u=Value.bytes b t from r);cases e;rfl
  | flt b=>obtain ⟨t,e⟩:=(show ∃ t,u=Value.float b t from r);cases e;rfl
  | ref a=>cases (show u=Value.ref a from r);rfl
  | ty n=>cases (show u=Value.type n from r);rfl
section
variable {P:Program} {w:World} {H H':Hp} {h h':Heap} {a C dx:Addr} {fs fs':List (Str × V)}
theorem FU (hok:HOk P w H h) (e:H a=some (.ins C dx fs)):∃ mA,ObjM h a dx C mA/\(∀ f,RelO (fs.lookup f) (mA f))/\PySem.Within mA (fs.map (·.1))/\fs.length<=1000/\H dx=some (.own a):=by
  obtain ⟨d,z,ne,ob,mA,n,r,q⟩:=(show ObjOk P w H h a (.ins C dx fs) from hok a _ e);exact ⟨mA,⟨ob,n,ne⟩,r,q,z,d⟩
end
structure Cls (K:PySem.W.Frag) (C:Addr):Prop where
  pg:PySem.W.plainGet K C Str.empty=true
  hd:PySem.W.hasDictIn K C=true
  po:PySem.W.plainOver K C=true
  sa:PySem.W.findIn K (.ref C) "__setattr__"=some (some (.builtin "object.__setattr__"))
theorem Cls.get {K:PySem.W.Frag} {C:Addr} (c:Cls K C) (f:Str):PySem.W.plainGet K C f=true:=c.pg
def NoAttr (K:PySem.W.Frag) (C:Addr) (f:Str):Prop:=PySem.W.findIn K (.ref C) f=some none
theorem NoAttr.taker {K:PySem.W.Frag} {C:Addr} {f:Str} (n:NoAttr K C f):PySem.W.takerIn K C f=some none:=by
  unfold PySem.W.takerIn;rw [show PySem.W.findIn K (.ref C) f=some none from n];rfl
structure Con (K:PySem.W.Frag) (C:Addr) (f:Str) (v:V) (u:Value):Prop where
  at_:PySem.W.findIn K (.ref C) f=some (some u)
  rel:RelV v u
  get:PySem.W.specialIn K u "__get__"=some none
  cp:PySem.W.copiedNames.contains f=false
structure Meth (K:PySem.W.Frag) (C:Addr) (m:Str) (f:Addr):Prop where
  at_:PySem.W.findIn K (.ref C) m=some (some (.ref f))
  fn:PySem.W.isFn K (.ref f)=true
  kp:PySem.W.keepIn K (.ref f)=true
section
variable {X:Cx} {pins:List (Addr × Obj)} {σ:St} {H:Hp} {s:Shared} {a C dx:Addr} {fs:List (Str × V)} {f:Str} {v:V} {A:Around} {E:Value->Shared->Prop}
theorem Lo {b:Bool} {Q:Value->Shared->Prop} (I:Inv X pins σ H s) (e:H a=some (.ins C dx fs)) (c:Cls X.K C) (n:NoAttr X.K C f) (l:fs.lookup f=some v)
    (h:∀ u s',Inv X pins σ H s'->RelV v u->Q u s'):wpAny (model X.prog X.w) A (getAttr (.ref a) f b) Q E s:=by
  obtain ⟨mA,O,r,_,_,_⟩:=FU I.hok e;obtain ⟨u,hu,ru⟩:=RelO.some_of (v:=v) (o:=mA f) (by rw [<-l];exact r f);exact Pc I.kIn O (c.get f) c.hd n hu (MD ru) (h u _ (I.tok _) ru)
theorem E4 {m:Str} {g:Addr} {pl:Sem Bool} {Q:Value × List Value->Shared->Prop} (I:Inv X pins σ H s) (e:H a=some (.ins C dx fs)) (c:Cls X.K C) (k:Meth X.K C m g) (l:fs.lookup m=none)
    (h:Q (.ref g,[.ref a]) s):wpAny (model X.prog X.w) A (getMethod (.ref a) m pl) Q E s:=by
  obtain ⟨mA,O,r,_,_,_⟩:=FU I.hok e;have hn:mA m=none:=RelO.none_of (by rw [<-l];exact r m);exact NM I.kIn O (c.get m) k.at_ k.fn hn h
theorem KR {y:V} {u:Value} {Q:Unit->Shared->Prop} (I:Inv X pins σ H s) (e:H a=some (.ins C dx fs)) (c:Cls X.K C) (n:NoAttr X.K C f) (hl:fs.length<1000) (ry:RelV y u)
    (h:∀ s',Inv X pins σ (upd H a (.ins C dx (A1 f y fs))) s'->Q () s'):wpAny (model X.prog X.w) A (setAttr (.ref a) f u) Q E s:=by
  obtain ⟨mA,O,r,wi,_,ho⟩:=FU I.hok e;have hz:(fs.map (·.1)).length<=sizeLine:=by rw [List.length_map,sizeLine_eq];omega
  refine ON I.kIn O c.sa c.po n.taker c.hd wi hz λ h' O' sb=>h _ ?_;have hd:∃ o,h'.get? dx=some o:=let ⟨o,_,_,e',_⟩:=O'.ns;⟨o,e'⟩;refine I.write (x:=a) (e:=dx) (by rw [e];exact True.intro) (.inr ho) (λ b q hb z=>(sb.2 b hb).trans z) hd ?_;refine ⟨by rw [As O.ne];exact ho,?_,O.ne,O'.obj,_,O'.ns,λ g=> ?_,λ g hg=> ?_⟩
  · have:=Gi f y fs;omega
  · show RelO ((A1 f y fs).lookup g) (if g=f then some u else mA g);rw [Gs];by_cases q:g=f
    · rw [if_pos q,if_pos q];exact ry
    · rw [if_neg q,if_neg q];exact r g
  · by_cases q:g=f
    · rw [q];exact (FZ f y fs).1
    · refine (FZ f y fs).2 g (wi g λ z=>hg ?_);show (if g=f then some u else mA g)=none;rw [if_neg q];exact z
theorem Inv.made (I:Inv X pins σ H s):Inv X pins σ (upd (upd H s.heap.objs.size (.own (s.heap.objs.size+1))) (s.heap.objs.size+1) (.ins C s.heap.objs.size []))
    { s with heap:=(s.heap.push PySem.W.emptyDict).push (PySem.W.instObj C s.heap.objs.size) }:=by
  have e1:(s.heap.push PySem.W.emptyDict).get? s.heap.objs.size=some PySem.W.emptyDict:=Heap.get?_push_size s.heap rfl;have e2:((s.heap.push PySem.W.emptyDict).push (PySem.W.instObj C s.heap.objs.size)).get? (s.heap.objs.size+1)=some (PySem.W.instObj C s.heap.objs.size):=by
    have:=Heap.get?_push_size (s.heap.push PySem.W.emptyDict) (o:=PySem.W.instObj C s.heap.objs.size) rfl
    rwa [Heap.size_push] at this
  have e3:(s.heap.push PySem.W.emptyDict).Ns s.heap.objs.size (λ _=>none):=⟨PySem.W.emptyDict, #[],_,e1,rfl,(λ e he=>absurd he (by simp)),λ _=>rfl⟩;have I1:=I.laid (a:=s.heap.objs.size) (o:= .own (s.heap.objs.size+1)) (h':=s.heap.push PySem.W.emptyDict) (t':=s.toks) (λ b u q=>Heap.get?_push_of_some _ q) (Nat.le_refl _) ⟨_,e1⟩;refine I1.laid (a:=s.heap.objs.size+1) (o:= .ins C s.heap.objs.size []) (t':=s.toks) (λ b u q=>Heap.get?_push_of_some _ q) (Nat.le_of_eq (Heap.size_push _ _)) ?_;have ne:s.heap.objs.size≠s.heap.objs.size+1:=Nat.ne_of_lt (Nat.lt_succ_self _);refine ⟨by rw [As ne,Ag],Nat.zero_le _,ne,e2,λ _=>none,(Heap.Ns1.of_empty e3).at λ o q=>Heap.get?_push_of_some _ q,λ _=>True.intro,λ y hy=>absurd rfl hy⟩
theorem OH {prog:Program} {w:World} {env:Env} {e:Expr} {f:Str} {pos:Pos} {s:Shared} {Q:Value->Shared->Prop} (hb:attributeBase e f env (eval e env)=eval e env)
    (h:wpAny (model prog w) A (eval e env) (λ o s₁=>wpAny (model prog w) A (getAttr o f true) Q E s₁) E s):wpAny (model prog w) A (eval (.Attribute e f pos) env) Q E s:=
  Attribute_any_ h (by rw [arm_eval_Attribute,hb])
end
def Qv (K:PySem.W.Frag) (ta:TE) (f:Str):TE:=λ σ H Q=>ta σ H λ x H1=>∃ a C dx fs v,x= .ref a/\H1 a=some (.ins C dx fs)/\Cls K C/\NoAttr K C f/\fs.lookup f=some v/\Q v H1
def SH (K:PySem.W.Frag) (ta tv:TE) (f:Str):TS:=λ D σ H=>tv σ H λ y H1=>ta σ H1 λ x H2=>∃ a C dx fs,x= .ref a/\H2 a=some (.ins C dx fs)/\Cls K C/\NoAttr K C f/\fs.length<1000/\
  D.nx σ (upd H2 a (.ins C dx (A1 f y fs)))
section
variable {X:Cx} {o e value:Expr} {f:Str} {pos pos' tpos:Pos} {ta tv:TE}
theorem Rh (he:PE X e ta) (hb:attributeBase e f X.env (eval e X.env)=eval e X.env):PE X (.Attribute e f pos) (Qv X.K ta f):=by
  intro pins s σ H Q I h;refine OH hb (thn (he pins s σ H _ I h) λ u s1 ⟨x,H1,I1,rx,a,C,dx,fs,v,ex,ea,c,n,l,q⟩=> ?_);subst ex;obtain rfl:u=Value.ref a:=rx;exact Lo I1 ea c n l λ u' s2 I2 ru=>⟨v,H1,I2,ru,q⟩
theorem Fa (ha:PE X o ta) (hv:PE X value tv) (hs:swapsWith value (some (.Attribute o f pos')) pos.line X.env=pure false):PS X (.Assign [.Attribute o f pos'] value pos) (SH X.K ta tv f):=by
  intro pins s σ H D I h;refine plainObj_wpAny_Assign_Attribute (thn (hv pins s σ H _ I h) λ u s1 ⟨y,H1,I1,ry,q⟩=>thn (ha pins s1 σ H1 _ I1 q) λ ov s2 ⟨x,H2,I2,rx,a,C,dx,fs,ex,ea,c,n,l,q2⟩=> ?_) hs;subst ex;obtain rfl:ov=Value.ref a:=rx;exact KR I2 ea c n l ry λ s3 I3=>⟨σ,_,I3,q2⟩
theorem PJ {pl:Sem Bool} {m:Str} {apos:Pos} {args:List Expr} {pins:List (Addr × Obj)} {s:Shared} {σ:St} {H:Hp} {Q:Value->Shared->Prop} {te:TE} (he:PE X e te) (I:Inv X pins σ H s)
    (h:te σ H λ x H1=>∃ a C dx fs g,x= .ref a/\H1 a=some (.ins C dx fs)/\Cls X.K C/\Meth X.K C m g/\fs.lookup m=none/\
      ∀ s1,Inv X pins σ H1 s1->wpAny (model X.prog X.w) X.A (callWith pos (.ref g) [.ref a] (backTo pos (starEach args X.env)) (backToKw pos (keywordEach [] X.env))) Q X.xe s1)
    (ht:eval (.Call (.Attribute e m apos) args [] pos) X.env=(do
      let ov <-eval e X.env
      standAt apos.atName
      let (f,first) <-holding [ov] (getMethod ov m pl)
      callWith pos f first (backTo pos (starEach args X.env)) (backToKw pos (keywordEach [] X.env)))):
    wpAny (model X.prog X.w) X.A (eval (.Call (.Attribute e m apos) args [] pos) X.env) Q X.xe s:=by
  refine PySem.W.methodCall_KW (pl:=pl) (thn (he pins s σ H _ I h) λ u s1 ⟨x,H1,I1,rx,a,C,dx,fs,g,ex,ea,c,k,l,q⟩=> ?_) ht;subst ex;obtain rfl:u=Value.ref a:=rx;exact E4 I1 ea c k l (q s1 I1)
end
section
variable {X:Cx} {pins:List (Addr × Obj)} {σ:St} {H:Hp} {s:Shared} {A:Around} {E:Value->Shared->Prop} {Q:Value->Shared->Prop} {c:Value} {b:Bool}
inductive TyOf (K:PySem.W.Frag) (H:Hp):V->Value->Prop where
  | non:TyOf K H .non (.type "NoneType")
  | bl (x:Bool):TyOf K H (.bl x) (.type "bool")
  | int (i:Int):TyOf K H (.int i) (.type "int")
  | str (x:Str):TyOf K H (.str x) (.type "str")
  | flt (x:UInt64):TyOf K H (.flt x) (.type "float")
  | lst {a:Addr} {xs:List V} (e:H a=some (.lst xs)):TyOf K H (.ref a) (.type "list")
  | frz {a:Addr} {o:Obj} {xs:List V} (e:H a=some (.frz o (.lst xs))):TyOf K H (.ref a) (.type "list")
  | tup {a:Addr} {xs:List V} (e:H a=some (.tup xs)):TyOf K H (.ref a) (.type "tuple")
  | dK {a:Addr} {kvs:List (Key × V)} (e:H a=some (.dK kvs)):TyOf K H (.ref a) (.type "dict")
  | dT {a:Addr} {kvs:List (List Key × V)} (e:H a=some (.dT kvs)):TyOf K H (.ref a) (.type "dict")
  | ins {a C dx:Addr} {fs:List (Str × V)} (e:H a=some (.ins C dx fs)) (cl:Cls K C) (ha:PySem.W.findIn K (.ref C) "__class__"=some (some (.builtin "object.__class__")))
      (hn:PySem.W.specialIn K (.builtin "object.__class__") "__get__"=some (some (.builtin "getset_descriptor.__get__"))) (htk:PySem.W.takesIn K (.builtin "object.__class__")=some true)
      (hm:PySem.W.mroIn K C (.type "object")=some true):TyOf K H (.ref a) (.ref C)
theorem Me {x:V} {u t:Value} (I:Inv X pins σ H s) (rx:RelV x u) (ty:TyOf X.K H x t) (e:PySem.W.kitOne X.K t c=some b) (h:∀ tk,Q (.bool b) { s with toks:=tk }):
    wpAny (model X.prog X.w) A (call (.builtin "isinstance") [u,c]) Q E s:=by
  cases ty with
  | non=>cases (show u=Value.none from rx);exact PySem.W.kia_one PySem.W.kitx_none I.kIn True.intro e (λ z=>nomatch z) h
  | bl y=>cases (show u=Value.bool y from rx);exact PySem.W.kia_one PySem.W.kitx_bool I.kIn True.intro e (λ z=>nomatch z) h
  | int i=>obtain ⟨t,q⟩:=(show ∃ t,u=Value.int i t from rx);cases q;exact PySem.W.kia_one PySem.W.kitx_int I.kIn True.intro e (λ z=>nomatch z) h
  | str y=>obtain ⟨t,q⟩:=(show ∃ t,u=Value.str y t from rx);cases q;exact PySem.W.kia_one PySem.W.kitx_str I.kIn True.intro e (λ z=>nomatch z) h
  | flt y=>obtain ⟨t,q⟩:=(show ∃ t,u=Value.float y t from rx);cases q;exact PySem.W.kia_one PySem.W.kitx_float I.kIn True.intro e (λ z=>nomatch z) h
  | @lst a xs ea=>
    cases (show u=Value.ref a from rx);obtain ⟨_,_,n,_,h1⟩:=(show ObjOk X.prog X.w H s.heap a (.lst xs) from I.hok a _ ea);exact PySem.W.kia_one PySem.W.kitx_list I.kIn ⟨_,h1,rfl⟩ e (λ z=>nomatch z) h
  | @frz a ob xs ea=>
    cases (show u=Value.ref a from rx);obtain ⟨_,_,_,n,_,h1⟩:=(show ObjOk X.prog X.w H s.heap a (.frz ob (.lst xs)) from I.hok a _ ea);exact PySem.W.kia_one PySem.W.kitx_list I.kIn ⟨_,h1,rfl⟩ e (λ z=>nomatch z) h
  | @tup a xs ea=>
    cases (show u=Value.ref a from rx);obtain ⟨_,_,_,p⟩:=(show ObjOk X.prog X.w H s.heap a (.tup xs) from I.hok a _ ea);obtain ⟨o,h1,h2,_⟩:=p;exact PySem.W.kia_one PySem.W.kitx_tuple I.kIn ⟨o,h1,h2⟩ e (λ z=>nomatch z) h
  | @dK a kvs ea=>
    cases (show u=Value.ref a from rx);obtain ⟨_,_,vs,_,p⟩:=(show ObjOk X.prog X.w H s.heap a (.dK kvs) from I.hok a _ ea);obtain ⟨o,es,ep,h1,h2,_⟩:=p;exact PySem.W.kia_one PySem.W.kitx_dict I.kIn ⟨o,h1,h2.1⟩ e (λ z=>nomatch z) h
  | @dT a kvs ea=>
    cases (show u=Value.ref a from rx);obtain ⟨_,_,xs,_,o,es,ep,h1,h2,_⟩:=(show ObjOk X.prog X.w H s.heap a (.dT kvs) from I.hok a _ ea);exact PySem.W.kia_one PySem.W.kitx_dict I.kIn ⟨o,h1,h2.1⟩ e (λ z=>nomatch z) h
  | @ins a C dx fs ea cl ha hn htk hm=>
    cases (show u=Value.ref a from rx);obtain ⟨mA,O,_⟩:=FU I.hok ea;obtain ⟨od,J,_⟩:=O.look;exact PySem.W.kia_one (PySem.W.kitx_own (cl.get _) cl.hd ha hn htk hm) I.kIn J e (λ z=>nomatch z) h
end
structure Room (k:Nat) (A:Around):Prop where
  hd:A.handled=none
  dp:A.depth+3*k+5<recursionLimit
  un:A.units+16*k+200<cLine
theorem Room.mono {j k:Nat} {A:Around} (r:Room k A) (h:j<=k):Room j A:=⟨r.hd,by have:=r.dp;omega,by have:=r.un;omega⟩
theorem Room.deeper {k:Nat} {A:Around} (r:Room (k+1) A) (env:Env):Room k (A.deeper env):=
  ⟨r.hd,by have:=r.dp;show A.depth+1+3*k+5<_;omega,by have:=r.un;show A.units+3+16*k+200<_;omega⟩
theorem K1 {A:Around} {C:Addr} {us:List Value} {kw:List (Str × Value)}:(A.under (.builtin "type.__call__" ⟨.ref C::us,kw⟩)).depth=A.depth+1:=by
  first | rfl | simp [Around.under,Code.weight,Code.isCreation,Code.isGuard,Code.isCaller,Code.frames,Code.isFrame,guardIds]
theorem Lp {A:Around} {C:Addr} {us:List Value} {kw:List (Str × Value)}:(A.under (.builtin "type.__call__" ⟨.ref C::us,kw⟩)).units=A.units+1:=by
  first | rfl | simp [Around.under,Code.cUnits,Code.frames,Code.isFrame]
theorem Room.make {k:Nat} {A:Around} (r:Room (k+1) A) (C:Addr) (us:List Value) (kw:List (Str × Value)):Room k (A.under (.builtin "type.__call__" ⟨.ref C::us,kw⟩)):=
  ⟨r.hd,by have:=r.dp;rw [K1];omega,by have:=r.un;rw [Lp];omega⟩
theorem Room.depth {k:Nat} {A:Around} (r:Room k A):A.depth<recursionLimit:=by have:=r.dp;omega
theorem Room.units {k:Nat} {A:Around} (r:Room k A):A.units+64<cLine:=by have:=r.un;omega
theorem Room.units0 {k:Nat} {A:Around} (r:Room k A):A.units<cLine:=by have:=r.un;omega
def JK:TA:=λ _ H Q=>Q [] H
def HL (ta:TE) (tr:TA):TA:=λ σ H Q=>ta σ H λ x H1=>tr σ H1 λ xs H2=>Q (x::xs) H2
section
variable {X:Cx} {e:Expr} {es:List Expr} {te:TE} {t:TA} {pos:Pos}
theorem Ab:PA X [] JK:=λ _ _ _ _ H Q I h=>Calls.spliced_nil ⟨[],H,I, .nil,h⟩
theorem Aa (ha:PE X e te) (hr:PA X es t) (hs:starEach (e::es) X.env=(false,eval e X.env)::starEach es X.env:=by rfl):PA X (e::es) (HL te t):=by
  intro pos pins s σ H Q I h;rw [hs];show wpAny _ _ (spliced ((false,eval e X.env)::backTo pos (starEach es X.env))) _ _ s;refine Calls.spliced_cons (thn (ha pins s σ H _ I h) λ u s1 ⟨x,H1,I1,r1,q1⟩=> ?_);exact thn (hr pos pins s1 σ H1 _ I1 q1) λ us s2 ⟨xs,H2,I2,r2,q2⟩=>⟨x::xs,H2,I2, .cons r1 r2,q2⟩
def WN (t:TA):TE:=λ σ H Q=>t σ H λ xs H1=>xs.length<=sizeLine/\∀ p,H1 p=none->Q (.ref p) (upd H1 p (.tup xs))
def Ol (t:TA):TE:=λ σ H Q=>t σ H λ xs H1=>xs.length<=sizeLine/\∀ p,H1 p=none->Q (.ref p) (upd H1 p (.lst xs))
theorem Cj {x1} (h:PA X es t):PE X (.Tuple es x1 pos) (WN t):=by
  intro pins s σ H Q I hq;refine wpAny_Tuple_spliced (thn (h pos pins s σ H _ I hq) λ us s1 ⟨xs,H1,I1,r,z,q⟩=>⟨by rw [<-r.length];exact z,?_⟩);have hf:H1 s1.heap.objs.size=none:=I1.hok.fresh (Nat.le_refl _);refine ⟨.ref s1.heap.objs.size,upd H1 s1.heap.objs.size (.tup xs),I1.laid (t':=s1.toks) (λ b u e=>Heap.get?_push_of_some _ e) (Nat.le_refl _) ?_,rfl,q _ hf⟩;exact ⟨z,us,r,⟨_,Heap.get?_push_size _ rfl,rfl,_,rfl⟩⟩
theorem Aw (h:PA X es t):PE X (.List es pos) (Ol t):=by
  intro pins s σ H Q I hq;refine wpAny_List_spliced (thn (h pos pins s σ H _ I hq) λ us s1 ⟨xs,H1,I1,r,z,q⟩=>⟨by rw [<-r.length];exact z,?_⟩);have hf:H1 s1.heap.objs.size=none:=I1.hok.fresh (Nat.le_refl _);refine ⟨.ref s1.heap.objs.size,upd H1 s1.heap.objs.size (.lst xs),I1.laid (t':=s1.toks) (λ b u e=>Heap.get?_push_of_some _ e) (Nat.le_refl _) ?_,rfl,q _ hf⟩;exact ⟨z,us,0,r,Heap.get?_push_size _ rfl⟩
end
abbrev Sp:=List V->Hp->VK->XK->Prop
abbrev CXT:=List Env->Hp->Shared->XK->Value->Shared->Prop
structure Env0 (P:Program) (w:World) (K:PySem.W.Frag) (mg:Str->Option Value) (base:Heap) (A:Around) (outer:List Env) (s:Shared) (H:Hp):Prop where
  frames:A.frames=some outer
  mod:Mod K mg base
  bs:∀ b o,base.get? b=some o->s.heap.get? b=some o/\H b=none
  bsz:base.objs.size<=s.heap.objs.size
  funs:s.heap.FunFrames base outer
  frf:∀ b∈frs outer,H b=none
  hok:HOk P w H s.heap
  bare:AllBare s.gens
def CE (outer:List Env) (P:Program) (w:World) (H:Hp) (s:Shared) (Q:VK) (u:Value) (s':Shared):Prop:=
  ∃ v H',s'.os=s.os/\AllBare s'.gens/\Un (frs outer) [] H H' s.heap s'.heap/\HOk P w H' s'.heap/\RelV v u/\Q v H'
def CR (CX:CXT) (outer:List Env) (P:Program) (w:World) (H:Hp) (s:Shared) (Q:VK) (E:XK) (r:Result) (s':Shared):Prop:=
  match r with
  | .ok (.ret u)=>CE outer P w H s Q u s'
  | .ok _=>False
  | .error e=>CX outer H s E e s'
structure FnOk (P:Program) (w:World) (K:PySem.W.Frag) (mg:Str->Option Value) (base:Heap) (CX:CXT) (k:Nat) (f:Addr) (fd:FuncData) (ps:List Str) (sp:Sp):Prop where
  len:∀ vs H Q E,sp vs H Q E->vs.length=ps.length
  run:∀ (A:Around) (outer:List Env) (s:Shared) (H:Hp) (args:Args) (us:List Value) (vs:List V) (Q:VK) (E:XK),Room k A->Env0 P w K mg base A outer s H->BindsTo s fd args (ps.zip us)->Vals vs us->sp vs H Q E->
    codeAny (model P w) A (.call (.ref f) args) (CR CX outer P w H s Q E) s
theorem FnOk.imp {P:Program} {w:World} {K:PySem.W.Frag} {mg:Str->Option Value} {base:Heap} {CX:CXT} {k:Nat} {f:Addr} {fd:FuncData} {ps:List Str} {sp sp':Sp} (F:FnOk P w K mg base CX k f fd ps sp)
    (h:∀ vs H Q E,sp' vs H Q E->sp vs H Q E):FnOk P w K mg base CX k f fd ps sp':=
  ⟨λ vs H Q E q=>F.len vs H Q E (h _ _ _ _ q),λ A outer s H args us vs Q E hr he hb hv hs=>F.run A outer s H args us vs Q E hr he hb hv (h _ _ _ _ hs)⟩
theorem Env0.make {P:Program} {w:World} {K:PySem.W.Frag} {mg:Str->Option Value} {base:Heap} {A:Around} {outer:List Env} {s:Shared} {H:Hp} (e:Env0 P w K mg base A outer s H) (C:Addr) (us:List Value) (kw:List (Str × Value)):
    Env0 P w K mg base (A.under (.builtin "type.__call__" ⟨.ref C::us,kw⟩)) outer s H:=⟨by first | exact e.frames | (simpa [Around.under,Code.envs,Code.isFrame,pushEnvs] using e.frames),e.mod,e.bs,e.bsz,e.funs,e.frf,e.hok,e.bare⟩
section
variable {X:Cx} {pins:List (Addr × Obj)} {σ:St} {H:Hp} {s s':Shared}
theorem Inv.env0 (I:Inv X pins σ H s):Env0 X.prog X.w X.K X.mg X.base X.A X.stack s H:=
  ⟨I.ok.frames,I.ok.mod,I.bs,Nat.le_trans I.ok.bsz I.sz,I.stack,I.stkFree,I.hok,I.bare⟩
theorem Inv.after {Q:VK} {u:Value} (I:Inv X pins σ H s) (h:CE X.stack X.prog X.w H s Q u s'):EP X pins σ Q u s':=by
  obtain ⟨v,H',os,bare,un,hok,r,q⟩:=h;obtain ⟨hh,g,d,t,os'⟩:=s';obtain rfl:os'=s.os:=os;exact ⟨v,H',I.call (h':=hh) (g':=g) (d':=d) (t':=t) (ch:=[]) un hok bare (λ b z=>absurd z (by simp)),r,q⟩
end
def IX (sp:Sp) (dvs:List V) (E:XK) (t:TA):TE:=λ σ H Q=>t σ H λ vs H1=>sp (vs++dvs) H1 Q E
def IA (C:Addr) (m:Str) (sp:Sp) (dvs:List V) (E:XK) (ta:TE) (t:TA):TE:=λ σ H Q=>ta σ H λ x H1=>∃ a dx fs,x= .ref a/\H1 a=some (.ins C dx fs)/\fs.lookup m=none/\
  t σ H1 λ vs H2=>sp (x::(vs++dvs)) H2 Q E
def LQ (C:Addr) (sp:Sp) (dvs:List V) (E:XK) (t:TA):TE:=λ σ H Q=>t σ H λ vs H1=>∀ x dx,H1 x=none->H1 dx=none->dx≠x->
  sp (.ref x::(vs++dvs)) (upd (upd H1 dx (.own x)) x (.ins C dx [])) (λ v H2=>v= .non/\Q (.ref x) H2) E
def Binds (K:PySem.W.Frag) (fd:FuncData) (ps:List Str) (ds:List Value):Prop:=
  ∀ (s:Shared) (us:List Value),K.In s.heap->(us++ds).length=ps.length->BindsTo s fd ⟨us,[]⟩ (ps.zip (us++ds))
theorem Binds.all {K:PySem.W.Frag} {fd:FuncData} {ps:List Str} (h:∀ us:List Value,us.length=ps.length->bindArgs fd ⟨us,[]⟩=pure (ps.zip us)):Binds K fd ps []:=λ s us _ hl=>by
  rw [List.append_nil] at hl ⊢;exact .of_eq (h us hl)
def E2 (CX:CXT) (X:Cx) (E:XK):Prop:=∀ (pins:List (Addr × Obj)) (σ:St) (H:Hp) (s:Shared) (e:Value) (s':Shared),Inv X pins σ H s->CX X.stack H s E e s'->X.xe e s'
section
variable {X:Cx} {CX:CXT} {k:Nat} {f C:Addr} {fd:FuncData} {ps:List Str} {sp:Sp} {dvs:List V} {ds:List Value} {E:XK} {x m:Str} {p pos apos:Pos} {e o:Expr} {es:List Expr} {ta:TE} {t:TA}
theorem KS {pins:List (Addr × Obj)} {σ:St} {H:Hp} {s:Shared} {Q:VK} {us:List Value} {vs:List V} (F:FnOk X.prog X.w X.K X.mg X.base CX k f fd ps sp) (hr:Room k X.A) (hb:Binds X.K fd ps ds) (hd:Vals dvs ds) (hx:E2 CX X E)
    (I:Inv X pins σ H s) (r:Vals vs us) (h:sp (vs++dvs) H Q E):wpAny (model X.prog X.w) X.A (call (.ref f) us) (EP X pins σ Q) X.xe s:=by
  have r2:Vals (vs++dvs) (us++ds):=r.append hd;have hl:(us++ds).length=ps.length:=by rw [<-r2.length];exact F.len _ _ _ _ h
  refine wpAny_call (codeAny_mono (F.run X.A X.stack s H ⟨us,[]⟩ (us++ds) (vs++dvs) Q E hr I.env0 (hb s us I.kIn hl) r2 h) λ r s' hq=> ?_);cases r with
  | error e=>exact hx pins σ H s e s' I hq
  | ok fl=>
    cases fl with
    | ret u=>exact I.after hq
    | next=>exact False.elim hq
    | brk=>exact False.elim hq
    | cont=>exact False.elim hq
theorem Pw (F:FnOk X.prog X.w X.K X.mg X.base CX k f fd ps sp) (hr:Room k X.A) (hg:Gl X x) (hm:X.mg x=some (.ref f)) (hk:PySem.W.keepIn X.K (.ref f)=true) (hb:Binds X.K fd ps ds) (hd:Vals dvs ds) (hx:E2 CX X E)
    (ha:PA X (e::es) t) (hdb:(x == ("__debug__":Str))=false:=by decide) (he:starEach (e::es) X.env=(false,eval e X.env)::starEach es X.env:=by rfl) (hpl:(backTo pos (starEach es X.env)).any (·.1)=false:=by rfl):
    PE X (.Call (.Name x p) (e::es) [] pos) (IX sp dvs E t):=by
  intro pins s σ H Q I h;refine wpAny_Call_Name_kw (Fx I hg hm ?_ hdb);refine PySem.W.callWith_K (h₀:=X.base) I.ok.mod.kin hk (thn (ha pos pins s σ H _ I h) λ us s1 ⟨vs,H1,I1,r,q⟩=>⟨I1.kIn,?_⟩) he hpl;exact KS F hr hb hd hx I1 r q
theorem Ot {pl:Sem Bool} (he:PE X o ta) (c:Cls X.K C) (hm:Meth X.K C m f) (F:FnOk X.prog X.w X.K X.mg X.base CX k f fd ps sp) (hr:Room k X.A) (hb:Binds X.K fd ps ds) (hd:Vals dvs ds) (hx:E2 CX X E) (ha:PA X (e::es) t)
    (hst:starEach (e::es) X.env=(false,eval e X.env)::starEach es X.env:=by rfl) (hpl:(backTo pos (starEach es X.env)).any (·.1)=false:=by rfl)
    (ht:eval (.Call (.Attribute o m apos) (e::es) [] pos) X.env=(do
      let ov <-eval o X.env
      standAt apos.atName
      let (f,first) <-holding [ov] (getMethod ov m pl)
      callWith pos f first (backTo pos (starEach (e::es) X.env)) (backToKw pos (keywordEach [] X.env))):=by rfl):
    PE X (.Call (.Attribute o m apos) (e::es) [] pos) (IA C m sp dvs E ta t):=by
  intro pins s σ H Q I h;refine PySem.W.methodCall_KW (pl:=pl) (thn (he pins s σ H _ I h) λ u s1 ⟨x,H1,I1,rx,a,dx,fs,ex,ea,l,q⟩=> ?_) ht;subst ex;obtain rfl:u=Value.ref a:=rx;refine E4 I1 ea c hm l ?_;refine PySem.W.callWith_K (first:=[.ref a]) (h₀:=X.base) I.ok.mod.kin hm.kp (thn (ha pos pins s1 σ H1 _ I1 q) λ us s2 ⟨vs,H2,I2,r,q2⟩=>⟨I2.kIn,?_⟩) hst hpl;exact KS (us:= .ref a::us) (vs:= .ref a::vs) F hr hb hd hx I2 (.cons rfl r) q2
theorem MT {pl:Sem Bool} (he:PE X o ta) (c:Cls X.K C) (hm:Meth X.K C m f) (F:FnOk X.prog X.w X.K X.mg X.base CX k f fd ps sp) (hr:Room k X.A) (hb:Binds X.K fd ps ds) (hd:Vals dvs ds) (hx:E2 CX X E)
    (ht:eval (.Call (.Attribute o m apos) [] [] pos) X.env=(do
      let ov <-eval o X.env
      standAt apos.atName
      let (f,first) <-holding [ov] (getMethod ov m pl)
      callWith pos f first (backTo pos (starEach [] X.env)) (backToKw pos (keywordEach [] X.env))):=by rfl):
    PE X (.Call (.Attribute o m apos) [] [] pos) (IA C m sp dvs E ta JK):=by
  intro pins s σ H Q I h;refine PySem.W.methodCall_KW (pl:=pl) (thn (he pins s σ H _ I h) λ u s1 ⟨x,H1,I1,rx,a,dx,fs,ex,ea,l,q⟩=> ?_) ht;subst ex;obtain rfl:u=Value.ref a:=rx;refine E4 I1 ea c hm l ?_;exact PySem.W.callWith_K0 (first:=[.ref a]) I1.kIn hm.kp (KS (us:=[.ref a]) (vs:=[.ref a]) F hr hb hd hx I1 (.cons rfl .nil) q)
structure Mk (K:PySem.W.Frag) (C f:Addr):Prop where
  makes:PySem.W.makesIn K C=true
  init:PySem.W.findIn K (.ref C) "__init__"=some (some (.ref f))
  fn:PySem.W.isFn K (.ref f)=true
  kp:PySem.W.keepIn K (.ref C)=true
theorem NF {pins:List (Addr × Obj)} {σ:St} {H:Hp} {s:Shared} {Q:VK} {us:List Value} {vs:List V} (M:Mk X.K C f) (F:FnOk X.prog X.w X.K X.mg X.base CX k f fd ps sp) (hr:Room (k+1) X.A) (hb:Binds X.K fd ps ds) (hd:Vals dvs ds)
    (hx:E2 CX X E) (I:Inv X pins σ H s) (r:Vals vs us)
    (h:∀ x dx,H x=none->H dx=none->dx≠x->sp (.ref x::(vs++dvs)) (upd (upd H dx (.own x)) x (.ins C dx [])) (λ v H2=>v= .non/\Q (.ref x) H2) E):
    wpAny (model X.prog X.w) X.A (call (.ref C) us) (EP X pins σ Q) X.xe s:=by
  have hq:=h (s.heap.objs.size+1) s.heap.objs.size (I.hok.fresh (Nat.le_succ _)) (I.hok.fresh (Nat.le_refl _)) (Nat.ne_of_lt (Nat.lt_succ_self _));have I2:=Inv.made (C:=C) I;have r2:Vals (V.ref (s.heap.objs.size+1)::(vs++dvs)) (Value.ref (s.heap.objs.size+1)::(us++ds)):= .cons rfl (r.append hd);have hl:(Value.ref (s.heap.objs.size+1)::us++ds).length=ps.length:=by
    have e:=r2.length;rw [F.len _ _ _ _ hq] at e;exact e.symm
  refine wpAny_call (N9 (f:=f) I.kIn M.makes M.init (beq_iff_eq.mp M.fn) (codeAny_mono (F.run _ X.stack _ _ ⟨Value.ref (s.heap.objs.size+1)::us,[]⟩ (Value.ref (s.heap.objs.size+1)::(us++ds)) _ _ E (hr.make C us [])
    (I2.env0.make C us []) (hb _ (Value.ref (s.heap.objs.size+1)::us) I2.kIn hl) r2 hq) λ r s' hq'=> ?_))
  cases r with
  | error e=>exact hx pins σ _ _ e s' I2 hq'
  | ok fl=>
    cases fl with
    | ret u=>
      obtain ⟨v,H',I3,rv,ev,q3⟩:=I2.after hq';subst ev;exact ⟨rv,⟨V.ref (s.heap.objs.size+1),H',I3,rfl,q3⟩⟩
    | next=>exact False.elim hq'
    | brk=>exact False.elim hq'
    | cont=>exact False.elim hq'
theorem O6 (M:Mk X.K C f) (F:FnOk X.prog X.w X.K X.mg X.base CX k f fd ps sp) (hr:Room (k+1) X.A) (hg:Gl X x) (hm:X.mg x=some (.ref C)) (hb:Binds X.K fd ps ds) (hd:Vals dvs ds) (hx:E2 CX X E)
    (ha:PA X (e::es) t) (hdb:(x == ("__debug__":Str))=false:=by decide) (he:starEach (e::es) X.env=(false,eval e X.env)::starEach es X.env:=by rfl) (hpl:(backTo pos (starEach es X.env)).any (·.1)=false:=by rfl):
    PE X (.Call (.Name x p) (e::es) [] pos) (LQ C sp dvs E t):=by
  intro pins s σ H Q I h;refine wpAny_Call_Name_kw (Fx I hg hm ?_ hdb);refine PySem.W.callWith_K (h₀:=X.base) I.ok.mod.kin M.kp (thn (ha pos pins s σ H _ I h) λ us s1 ⟨vs,H1,I1,r,q⟩=>⟨I1.kIn,?_⟩) he hpl;exact NF M F hr hb hd hx I1 r q
end
section
variable {X:Cx} {CX:CXT} {k:Nat} {f C:Addr} {fd:FuncData} {ps ks:List Str} {sp:Sp} {E:XK} {x m:Str} {p pos apos kpos:Pos} {e o:Expr} {es:List Expr} {kws:List Keyword} {te ta:TE} {t tk:TA} {nm:Option Str}
structure KBinds (K:PySem.W.Frag) (fd:FuncData) (ps ks:List Str) (g:List Value->List Value->List Value) (gV:List V->List V->List V):Prop where
  to:∀ (s:Shared) (us ws:List Value),K.In s.heap->(g us ws).length=ps.length->BindsTo s fd ⟨us,ks.zip ws⟩ (ps.zip (g us ws))
  rel:∀ {vs:List V} {us:List Value} {zs:List V} {ws:List Value},Vals vs us->Vals zs ws->Vals (gV vs zs) (g us ws)
variable {g:List Value->List Value->List Value} {gV:List V->List V->List V}
end
structure FnScope (N P:List Str) (sc:Scope):Prop where
  kind:sc.kind= .function
  co:sc.isCoroutine=false
  gen:sc.isGenerator=false
  nd:N.Nodup
  pre:N.take P.length=P
  par:∀ x∈P,sc.names.lookup x=some .local\/sc.names.lookup x=some .cell
  nofree:∀ y∈sc.names,y.2≠ .free
theorem Ja {kindOf:Str->Option NameKind} {x:Str}:∀ {binds:List (Str × Value)} {m:Str->Option Value},(∀ v,(x,v)∉binds)->bindL kindOf binds m x=m x
  | [],_,_=>rfl
  | (n,v)::r,m,h=>by
    unfold bindL;rw [Ja λ w hw=>h w (List.mem_cons_of_mem _ hw)];split
    · have:x≠n:=by rintro rfl;exact h v List.mem_cons_self
      simp [this]
    · rfl
theorem IG {kindOf:Str->Option NameKind} {x:Str}:∀ {binds:List (Str × Value)} {m:Str->Option Value},(∀ v,(x,v)∉binds)->bindC kindOf binds m x=m x
  | [],_,_=>rfl
  | (n,v)::r,m,h=>by
    unfold bindC;rw [IG λ w hw=>h w (List.mem_cons_of_mem _ hw)];split
    · rfl
    · have:x≠n:=by rintro rfl;exact h v List.mem_cons_self
      simp [this]
theorem IB {kindOf:Str->Option NameKind} {x:Str} {v:Value}:∀ {P:List Str} {vs:List Value} {i:Nat} {m:Str->Option Value},P.Nodup->P[i]?=some x->vs[i]?=some v->kindOf x=some .local->
    bindL kindOf (P.zip vs) m x=some v
  | [],_,_,_,_,h,_,_=>by simp at h
  | _::_,[],_,_,_,_,h,_=>by simp at h
  | p::P,w::vs,0,m,nd,h1,h2,hk=>by
    simp at h1 h2;subst h1;subst h2;show bindL kindOf ((p,w)::P.zip vs) m p=_;unfold bindL;rw [Ja λ v hv=>(List.nodup_cons.mp nd).1 (List.of_mem_zip hv).1,if_pos hk];simp
  | p::P,w::vs,i+1,m,nd,h1,h2,hk=>by
    show bindL kindOf ((p,w)::P.zip vs) m x=_;unfold bindL;exact IB (i:=i) (List.nodup_cons.mp nd).2 (by simpa using h1) (by simpa using h2) hk
theorem IQ {kindOf:Str->Option NameKind} {x:Str} {v:Value}:∀ {P:List Str} {vs:List Value} {i:Nat} {m:Str->Option Value},P.Nodup->P[i]?=some x->vs[i]?=some v->kindOf x≠some .local->
    bindC kindOf (P.zip vs) m x=some v
  | [],_,_,_,_,h,_,_=>by simp at h
  | _::_,[],_,_,_,_,h,_=>by simp at h
  | p::P,w::vs,0,m,nd,h1,h2,hk=>by
    simp at h1 h2;subst h1;subst h2;show bindC kindOf ((p,w)::P.zip vs) m p=_;unfold bindC;rw [IG λ v hv=>(List.nodup_cons.mp nd).1 (List.of_mem_zip hv).1,if_neg hk];simp
  | p::P,w::vs,i+1,m,nd,h1,h2,hk=>by
    show bindC kindOf ((p,w)::P.zip vs) m x=_;unfold bindC;exact IQ (i:=i) (List.nodup_cons.mp nd).2 (by simpa using h1) (by simpa using h2) hk
noncomputable def start (N:List Str) (vs:List V):St:=vs.map some++List.replicate (N.length - vs.length) none
noncomputable def Ln (CX:CXT) (P:Program) (w:World) (K:PySem.W.Frag) (mg:Str->Option Value) (base:Heap) (N:List Str) (qual:Str) (scope:Scope) (f:Addr) (cd:Value) (A:Around) (outer:List Env) (s:Shared) (H:Hp) (E:XK):Cx where
  prog:=P
  w:=w
  K:=K
  mg:=mg
  base:=base
  A:=A.deeper (envOfC qual scope s.heap.objs.size f cd)
  N:=N
  s₀:=s
  H₀:=H
  env:=envOfC qual scope s.heap.objs.size f cd
  outer:=outer
  stack:=envOfC qual scope s.heap.objs.size f cd::outer
  ex:=[]
  calm:=true
  fn:=λ _=>true
  pn:=[]
  xe:=λ e s'=>wpAny (model P w) (A.deeper (envOfC qual scope s.heap.objs.size f cd)) (leaving (envOfC qual scope s.heap.objs.size f cd) e) (λ _ s''=>CX outer H s E e s'') (λ e' s''=>CX outer H s E e' s'') s'
theorem Km {sc:Scope} {n:Nat} {x:Str} (h:sc.names.lookup x=some .cell):∃ c,(cellsFrom n sc.names []).lookup x=some c:=by
  have q:=PySem.W.cellsFrom_some sc.names n [] (.inl h);exact Option.isSome_iff_exists.mp q
theorem MK {CX:CXT} {P:Program} {w:World} {K:PySem.W.Frag} {mg:Str->Option Value} {base:Heap} {N ps:List Str} {qual:Str} {scope:Scope} {f:Addr} {cd:Value} {A:Around} {outer:List Env} {s s1:Shared} {H:Hp} {E:XK} {us:List Value} {vs:List V}
    (S:FnScope N ps scope) (hd:A.handled=none) (e0:Env0 P w K mg base A outer s H) (hl:vs.length=ps.length) (r:Vals vs us)
    (x:InCallC s s.heap.objs.size (bindL (envOfC qual scope s.heap.objs.size f cd).kindOf (ps.zip us) λ _=>none) (cellsFrom (s.heap.objs.size+1) scope.names []) (bindC (envOfC qual scope s.heap.objs.size f cd).kindOf (ps.zip us) λ _=>none) s1):
    Inv (Ln CX P w K mg base N qual scope f cd A outer s H E) [] (start N vs) H s1:=by
  have hpl:ps.length<=N.length:=by have:=congrArg List.length S.pre;rw [List.length_take] at this;omega
  obtain ⟨h1,tk,rfl,hk⟩:=x.done;have noA:∀ b:Addr,b∉(Ln CX P w K mg base N qual scope f cd A outer s H E).ex:=λ b z=>absurd (show b∈([]:List Addr) from z) (by simp);refine ⟨⟨e0.mod,S.kind,rfl,rfl,Nat.le_refl _,λ y z c h1 h2=> ?_,λ y hy=> ?_,λ y c _ h=> ?_,λ _=>hd,Around.frames_deeper e0.frames, .inr ⟨rfl,rfl⟩,λ b z=>absurd z (noA b),e0.bs,e0.bsz,λ b _ _=>noA b,λ b z=>absurd z (noA b),e0.funs,e0.frf⟩,
    rfl,e0.bare,Un.kept hk,⟨_,x.toInCall.ns,λ i y v h1 h2 h3=> ?_⟩,λ y c h=>⟨_,x.cell y c h⟩,e0.hok.fresh (Nat.le_refl _),λ y c h=> ?_,λ p hp=>absurd (show p∈([]:List (Addr × Obj)) from hp) (by simp),e0.hok.kept hk,?_⟩
  · exact name_of_addr x.apart (PySem.mem_of_lookup h1) (PySem.mem_of_lookup h2)
  · have hy:scope.names.lookup y=some .cell\/scope.names.lookup y=some .free:=hy;rcases hy with hy | hy
    · exact Km hy
    · exact absurd rfl (S.nofree _ (PySem.mem_of_lookup hy))
  · exact Nat.le_of_lt (x.above y c (PySem.mem_of_lookup h))
  · have hi:i<vs.length:=by
      unfold start at h2;by_cases hi:i<vs.length
      · exact hi
      · rw [List.getElem?_append_right (by simpa using hi)] at h2;rw [List.getElem?_replicate] at h2;split at h2 <;> cases h2
    have ha:vs[i]?=some v:=by
      unfold start at h2;rw [List.getElem?_append_left (by simpa using hi),List.getElem?_map] at h2;cases e:vs[i]? with
      | none=>rw [e] at h2;cases h2
      | some a=>rw [e] at h2;cases h2;rfl
    obtain ⟨u,hu,rv⟩:=r.get ha;have hp:ps[i]?=some y:=by
      rw [<-S.pre,List.getElem?_take_of_lt (by omega)];exact h1
    have ndP:ps.Nodup:=by rw [<-S.pre];exact S.nd.sublist (List.take_sublist _ _)
    refine ⟨u,rv,?_⟩;rcases S.par y (List.mem_of_getElem? hp) with k | k
    · exact .inl ⟨k,IB ndP hp hu k⟩
    · obtain ⟨c,e⟩:=Km (n:=s.heap.objs.size+1) k;refine .inr ⟨.inl k,c,e,?_⟩;have q:=x.cell y c e;rw [IQ ndP hp hu (by show scope.names.lookup y≠_;rw [k];decide)] at q;exact q
  · exact e0.hok.fresh (Nat.le_of_lt (x.above y c (PySem.mem_of_lookup h)))
  · unfold start;show _=N.length;rw [List.length_append,List.length_map,List.length_replicate];omega
theorem P5 {CX:CXT} {P:Program} {w:World} {K:PySem.W.Frag} {mg:Str->Option Value} {base:Heap} {k:Nat} {f:Addr} {name qual:Str} {params:Arguments} {body:List Stmt} {scope:Scope} {dV kV doc pm cdv ct oc:Value} {an od:Option Addr}
    {osl:Array (Option Value)} {N ps:List Str} {sp:Sp} (lk:K.lookup f=some ⟨oc,od, .func (PySem.W.fnOf name qual params body scope dV kV doc pm an cdv ct),osl⟩) (hcd:PySem.W.codeIn K cdv qual=true) (S:FnScope N ps scope)
    (len:∀ vs H Q E,sp vs H Q E->vs.length=ps.length)
    (hbody:∀ (A:Around) (outer:List Env) (s:Shared) (H:Hp) (vs:List V) (Q:VK) (E:XK),Room k (A.deeper (envOfC qual scope s.heap.objs.size f cdv))->sp vs H Q E->
      ∃ t,PSs (Ln CX P w K mg base N qual scope f cdv A outer s H E) body t/\t { nx:=λ _ H'=>Q .non H',rt:=Q } (start N vs) H):
    FnOk P w K mg base CX (k+1) f (PySem.W.fnOf name qual params body scope dV kV doc pm an cdv ct) ps sp:=by
  refine ⟨len,λ A outer s H args us vs Q E hr e0 hb r hsp=> ?_⟩;have hl:=len _ _ _ _ hsp;have KX:K.In s.heap:=e0.mod.kin.keeps λ b o e=>(e0.bs b o e).1;have lim:s.heap.NoLimit:=e0.mod.nolimit.keeps λ b o e=>(e0.bs b o e).1;have hkind:∀ y∈ps.zip us,scope.names.lookup y.1=some .local\/(scope.names.lookup y.1=some .cell/\((cellsFrom (s.heap.objs.size+1) scope.names []).lookup y.1).isSome=true):=λ ⟨n,v⟩ hy=>by
    rcases S.par n (List.of_mem_zip hy).1 with q | q
    · exact .inl q
    · exact .inr ⟨q,PySem.W.cellsFrom_some _ _ _ (.inl q)⟩
  refine codeAny_call_function hr.depth (KX _ _ lk) rfl S.co S.gen rfl (PySem.W.codeRec_of KX hcd) (hb _ _ _ _ ?_);refine wpAny_newFunctionEnv_cells S.kind hkind λ env he s1 x=> ?_;subst he;refine ⟨lim.keeps x.toInCall.keep,codeAny_func ?_⟩;obtain ⟨t,ht,hq⟩:=hbody A outer s H vs Q E (hr.deeper _) hsp;have I:Inv (Ln CX P w K mg base N qual scope f cdv A outer s H E) [] (start N vs) H s1:=MK S hr.hd e0 hl r x;refine wpAny_mono (ht [] s1 (start N vs) H _ I hq) (λ fl s' hs=> ?_) λ e s' hs=>hs;have fin:∀ {σ':St} {H':Hp} {v:V} {u:Value},Inv (Ln CX P w K mg base N qual scope f cdv A outer s H E) [] σ' H' s'->RelV v u->Q v H'->CE outer P w H s Q u s':=
    λ {σ' H' v u} J rv q=>⟨v,H',J.os,J.bare,J.base,J.hok,rv,q⟩
  cases fl with
  | ret u=>
    obtain ⟨v,σ',H',J,rv,q⟩:=hs;exact fin J rv q
  | next=>
    obtain ⟨σ',H',J,q⟩:=hs;exact fin (v:=V.non) (u:=Value.none) J rfl q
  | brk=>
    obtain ⟨_,_,_,q⟩:=hs;exact False.elim q
  | cont=>
    obtain ⟨_,_,_,q⟩:=hs;exact False.elim q
section
variable {X:Cx} {x:Str} {p pos:Pos} {e:Expr} {es:List Expr} {t:TA} {id T:String} {r:List V->Hp->VK->Prop}
def tCB (r:List V->Hp->VK->Prop) (t:TA):TE:=λ σ H Q=>t σ H λ vs H1=>r vs H1 Q
theorem Ah (hc:BG X (.builtin id) r) (hg:Gl X x) (hm:X.mg x=none) (hv:bootBuiltins x=some (.builtin id)) (ha:PA X (e::es) t) (hn:x≠"__name__":=by decide) (hdb:(x == ("__debug__":Str))=false:=by decide)
    (he:starEach (e::es) X.env=(false,eval e X.env)::starEach es X.env:=by rfl) (hpl:(backTo pos (starEach es X.env)).any (·.1)=false:=by rfl):PE X (.Call (.Name x p) (e::es) [] pos) (tCB r t):=by
  intro pins s σ H Q I h;refine wpAny_Call_Name_kw (Di I hg hm hv ?_ hn hdb);exact PyProof.Rows.callWith_builtin1 (thn (ha pos pins s σ H _ I h) λ us s1 ⟨vs,H1,I1,r1,q1⟩=>hc pins s1 σ H1 vs us Q I1 r1 q1) he hpl
theorem Av (hc:BG X (.type T) r) (hg:Gl X x) (hm:X.mg x=none) (hv:bootBuiltins x=some (.type T)) (ha:PA X (e::es) t) (hn:x≠"__name__":=by decide) (hdb:(x == ("__debug__":Str))=false:=by decide)
    (he:starEach (e::es) X.env=(false,eval e X.env)::starEach es X.env:=by rfl) (hpl:(backTo pos (starEach es X.env)).any (·.1)=false:=by rfl):PE X (.Call (.Name x p) (e::es) [] pos) (tCB r t):=by
  intro pins s σ H Q I h;refine wpAny_Call_Name_kw (Di I hg hm hv ?_ hn hdb);exact PyProof.Rows.callWith_type1 (thn (ha pos pins s σ H _ I h) λ us s1 ⟨vs,H1,I1,r1,q1⟩=>hc pins s1 σ H1 vs us Q I1 r1 q1) he hpl
end
end L2
namespace HT
open PySem PyProof.Rows
section
open PySem.SeqAt
open PySem.AutoSeq1 (wpAny_loadPart')
open PySem.MeetsSeq PySem.MeetsSeq2 PySem.MeetsSeq3
end
section
variable {prog:Program} {w:World} {A:Around} {E:Value->Shared->Prop} {s:Shared}
noncomputable def sIx (n d:Nat):Option Int->Nat
  | none=>d
  | some v=>if v<0 then (v+(n:Int)).toNat else min v.toNat n
end
end HT
namespace L2
open PySem PySem.Spec PyProof.Rows
abbrev TO:=St->Hp->(Option Int->Hp->Prop)->Prop
def PO (X:Cx) (e:Option Expr) (t:TO):Prop:=
  ∀ (pins:List (Addr × Obj)) (s:Shared) (σ:St) (H:Hp) (Q:Option Int->Hp->Prop),Inv X pins σ H s->t σ H Q->
    wpAny (model X.prog X.w) X.A (evalPart e X.env) (λ u s'=>∃ o H',Inv X pins σ H' s'/\IsPart u o/\Q o H') X.xe s
def L1:TO:=λ _ H Q=>Q none H
def P7 (t:TE):TO:=λ σ H Q=>t σ H λ x H1=>∃ i,x= .int i/\Q (some i) H1
theorem Ll {ns:List Int}:∀ {us:List Value},Vals (ns.map V.int) us->IntsAre us ns:=by
  induction ns with
  | nil=>intro us r;rw [List.map_nil] at r;cases r;exact .nil
  | cons n ns ih=>
    intro us r;rw [List.map_cons] at r;cases r with
    | cons r1 r2=>
      obtain ⟨t,e⟩:=r1;subst e;exact .cons n t (ih r2)
section
variable {X:Cx} {e:Expr} {te:TE} {lo hi:Option Expr} {tl th:TO} {pos p2:Pos}
theorem Ca:PO X none L1:=by
  intro pins s σ H Q I h;rw [evalPart_none];exact wpAny_pure ⟨none,H,I, .none,h⟩
theorem AV (h:PE X e te):PO X (some e) (P7 te):=by
  intro pins s σ H Q I hw;rw [evalPart_some];refine thn (h pins s σ H _ I hw) λ u s1 ⟨x,H1,I1,r1,q1⟩=> ?_;obtain ⟨i,rfl,q⟩:=q1;obtain ⟨t,rfl⟩:=r1;exact ⟨some i,H1,I1, .int i t,q⟩
def SlR (X:Cx) (r:V->Option Int->Option Int->Hp->VK->Prop):Prop:=
  ∀ (pins:List (Addr × Obj)) (s:Shared) (σ:St) (H:Hp) (x:V) (v vl vu:Value) (lo hi:Option Int) (sl:Addr) (Q:VK),Inv X pins σ H s->RelV x v->s.heap.IsSliceOf sl vl vu .none->IsPart vl lo->IsPart vu hi->r x lo hi H Q->
    ∃ T id,typeLookup (.type T) "__getitem__"=pure (some (.builtin id))/\s.TypeIs v T/\wpAny (model X.prog X.w) X.A (getItem v (.ref sl)) (EP X pins σ Q) X.xe s
def tSl (r:V->Option Int->Option Int->Hp->VK->Prop) (te:TE) (tl th:TO):TE:=λ σ H Q=>te σ H λ x H1=>tl σ H1 λ l H2=>th σ H2 λ u H3=>r x l u H3 Q
theorem A0 {r:V->Option Int->Option Int->Hp->VK->Prop} (hr:SlR X r) (he:PE X e te) (hl:PO X lo tl) (hu:PO X hi th):PE X (.Subscript e (.Slice lo hi none p2) pos) (tSl r te tl th):=by
  intro pins s σ H Q I h;refine Subscript_ (thn (he pins s σ H _ I h) λ v s1 ⟨x,H1,I1,r1,q1⟩=> ?_);refine wpAny_Slice (thn (hl pins s1 σ H1 _ I1 q1) λ vl s2 ⟨l,H2,I2,pl,q2⟩=>thn (hu pins s2 σ H2 _ I2 q2) λ vu s3 ⟨u,H3,I3,pu,q3⟩=> ?_);rw [evalPart_none];refine wpAny_pure ?_;have I4:Inv X pins σ H3 { s3 with heap:=s3.heap.push { cls:= .type "slice",data:= .fields #[vl,vu, .none] } }:=I3.kept (t':=s3.toks) λ b ob q=>Heap.get?_push_of_some _ q;obtain ⟨T,id,hT,ht,hg⟩:=hr pins { s3 with heap:=s3.heap.push { cls:= .type "slice",data:= .fields #[vl,vu, .none] } } σ H3 x v vl vu l u s3.heap.objs.size Q I4 r1 (Heap.IsSliceOf.new ..) pl pu q3;show wpAny (model X.prog X.w) X.A (subscriptTail e (.Slice lo hi none p2) v (.ref s3.heap.objs.size)) (EP X pins σ Q) X.xe { s3 with heap:=s3.heap.push { cls:= .type "slice",data:= .fields #[vl,vu, .none] } };exact tail_any (ops:=[.ref s3.heap.objs.size,v]) ht hT hg (by with_unfolding_all rfl)
noncomputable def Fn (xs:List V) (lo hi:Option Int):List V:=(xs.drop (HT.sIx xs.length 0 lo)).take (HT.sIx xs.length xs.length hi - HT.sIx xs.length 0 lo)
theorem Ks (xs:List V) (lo hi:Option Int):(Fn xs lo hi).length<=xs.length:=by
  unfold Fn;rw [List.length_take,List.length_drop];omega
end
noncomputable def ixN (n:Nat) (i:Int):Option Nat:=if 0<=i then (if i<n then some i.toNat else none) else if -(n:Int)<=i then some (i+n).toNat else none
noncomputable def atI {α:Type} (xs:List α) (i:Int):Option α:=(ixN xs.length i).bind λ j=>xs[j]?
theorem OS {n:Nat} {i:Int} {j:Nat} (h:ixN n i=some j):seqIndex? i n=some j/\j<n/\ -(n:Int)<=i/\i<n:=by
  unfold ixN at h;by_cases h0:0<=i
  · rw [if_pos h0] at h;by_cases h1:i<n
    · rw [if_pos h1] at h;have e:i.toNat=j:=Option.some.inj h;exact ⟨by rw [seqIndex_of h0 h1,e],by omega,by omega,h1⟩
    · rw [if_neg h1] at h;cases h
  · rw [if_neg h0] at h;by_cases h1: -(n:Int)<=i
    · rw [if_pos h1] at h;have e:(i+n).toNat=j:=Option.some.inj h;exact ⟨by rw [seqIndex_neg (by omega) h1,e],by omega,h1,by omega⟩
    · rw [if_neg h1] at h;cases h
theorem GV {α:Type} {xs:List α} {i:Int} {v:α} (h:atI xs i=some v):∃ j,seqIndex? i xs.length=some j/\xs[j]?=some v/\j<xs.length/\ -(xs.length:Int)<=i/\i<xs.length:=by
  unfold atI at h;cases e:ixN xs.length i with
  | none=>rw [e] at h;cases h
  | some j=>
    rw [e] at h;obtain ⟨h1,h2,h3,h4⟩:=OS e;exact ⟨j,h1,h,h2,h3,h4⟩
theorem AQ {α:Type} {xs:List α} {j:Nat} {v:α} (h:xs[j]?=some v):atI xs (j:Int)=some v:=by
  have hj:j<xs.length:=(List.getElem?_eq_some_iff.mp h).1;have e:ixN xs.length (j:Int)=some j:=by
    unfold ixN;rw [if_pos (by omega),if_pos (by omega)];simp
  unfold atI;rw [e];exact h
def OW (b:Expr):Prop:=∀ o i,subscripted b false o i=operate [o,i] (getItem o i)
def IxR (X:Cx) (r:R2):Prop:=
  ∀ (value slice:Expr) (pins:List (Addr × Obj)) (s:Shared) (σ:St) (H:Hp) (x y:V) (v u:Value) (Q:VK),Inv X pins σ H s->RelV x v->RelV y u->r x y H Q->
    subscripted slice false v u=operate [v,u] (getItem v u)->wpAny (model X.prog X.w) X.A (subscriptTail value slice v u) (EP X pins σ Q) X.xe s
def MtR (X:Cx) (id:String) (r:V->List V->Hp->VK->Prop):Prop:=
  ∀ (pins:List (Addr × Obj)) (s:Shared) (σ:St) (H:Hp) (x:V) (xs:List V) (v:Value) (us:List Value) (Q:VK),Inv X pins σ H s->RelV x v->Vals xs us->r x xs H Q->
    wpAny (model X.prog X.w) X.A (call (.builtin id) (v::us)) (EP X pins σ Q) X.xe s
section
variable {X:Cx} {a b:Expr} {ta tb:TE} {pos:Pos}
theorem Ba {r:R2} (hr:IxR X r) (ha:PE X a ta) (hb:PE X b tb) (hs:OW b):PE X (.Subscript a b pos) (tOp r ta tb):=by
  intro pins s σ H Q I h;exact Subscript_ (QW ha hb I h λ v u s2 x y H2 I2 rx ry q=>hr a b pins s2 σ H2 x y v u Q I2 rx ry q (hs _ _))
def QU (K:PySem.W.Frag):R2:=λ x y H Q=>∃ p xs i v,x= .ref p/\y= .int i/\SqL K H p xs/\atI xs i=some v/\Q v H
def Rn (K:PySem.W.Frag):R2:=λ x y H Q=>∃ p xs i v,x= .ref p/\y= .int i/\SqT K H p xs/\atI xs i=some v/\Q v H
def VC:R2:=λ x y H Q=>∃ z i c,x= .str z/\y= .int i/\z.length<=sizeLine/\atI z.cps.toList i=some c/\Q (.str ⟨#[c]⟩) H
theorem Ph:IxR X (QU X.K):=by
  intro value slice pins s σ H x y v u Q I rx ry h hs;obtain ⟨p,xs,i,z,rfl,rfl,hq,he,q⟩:=h;cases rx;obtain ⟨t,rfl⟩:=ry;obtain ⟨its,r,pl,hz⟩:=I.list hq;obtain ⟨j,h1,h2,h3,h4,h5⟩:=GV he;obtain ⟨w,ew,rw'⟩:=r.get h2;have hl:=r.length;have hn:=Hc;have fin:EP X pins σ Q w s:=⟨z,H,I,rw',q⟩;by_cases h0:0<=i
  · have hj:i.toNat=j:=by
      rw [seqIndex_of h0 h5] at h1;exact Option.some.inj h1
    exact item_listR pl.isList h0 (by omega) (by rw [hj];simpa using ew) fin hs
  · have hj:(i+(its.toArray.size:Int)).toNat=j:=by
      rw [seqIndex_neg (by omega) h4] at h1;rw [List.size_toArray, <-hl];exact Option.some.inj h1
    exact subscriptTail_builtinR (x:=w) pl.isList.typeIs slot_list_getitem.lookup
      (wpAny_getItem_list_neg (Q:=λ r s'=>r=w/\EP X pins σ Q r s') pl.isList (by omega) (by rw [List.size_toArray] <;> omega) (by omega) (by rw [hj];simpa using ew) ⟨rfl,fin⟩) hs
theorem Qe:IxR X (Rn X.K):=by
  intro value slice pins s σ H x y v u Q I rx ry h hs;obtain ⟨p,xs,i,z,rfl,rfl,hq,he,q⟩:=h;cases rx;obtain ⟨t,rfl⟩:=ry;obtain ⟨its,r,pl,hz⟩:=I.tuple hq;obtain ⟨j,h1,h2,h3,h4,h5⟩:=GV he;obtain ⟨w,ew,rw'⟩:=r.get h2;have hl:=r.length;have hn:=Hc;have fin:EP X pins σ Q w s:=⟨z,H,I,rw',q⟩;exact subscriptTail_builtinR (x:=w) pl.typeIs slot_tuple_getitem.lookup
    (getItem_tuple (j:=j) (Q:=λ r s'=>r=w/\EP X pins σ Q r s') pl (by omega) (by omega) (by rw [List.size_toArray, <-hl];exact h1) (by simpa using ew) ⟨rfl,fin⟩) hs
theorem KY:IxR X VC:=by
  intro value slice pins s σ H x y v u Q I rx ry h hs;obtain ⟨z,i,c,rfl,rfl,hz,he,q⟩:=h;obtain ⟨t,rfl⟩:=rx;obtain ⟨t',rfl⟩:=ry;obtain ⟨j,h1,h2,h3,h4,h5⟩:=GV he;have hl:z.cps.toList.length=z.length:=by simp [Str.length]
  rw [hl] at h1 h4 h5;have hn:=Hc;exact tail_any (typeIs_str s z t) slot_str_getitem.lookup (getItem_str (c:=c) (by
    have e1:decide (i< -(2 ^ 63:Int))=false:=decide_eq_false (by omega);have e2:decide (i>=2 ^ 63)=false:=decide_eq_false (by omega);rw [e1,e2,Bool.or_false]) (by rw [h1];simpa using h2) ⟨.str ⟨#[c]⟩,H,I.tok _,⟨_,rfl⟩,q⟩) hs
theorem JE (lo hi:Option Int) (n:Nat):(sliceBounds lo hi none n).1=((HT.sIx n 0 lo:Nat):Int)/\(sliceBounds lo hi none n).2.1=((HT.sIx n n hi:Nat):Int)/\(sliceBounds lo hi none n).2.2=1:=by
  refine ⟨?_,?_,rfl⟩
  · cases lo with
    | none=>simp [sliceBounds,HT.sIx]
    | some i=>
      simp only [sliceBounds,HT.sIx,Option.getD_none,show (1:Int)>0 by decide,if_true];by_cases h:i<0
      · simp only [h,if_true] <;> omega
      · simp only [h,if_false] <;> omega
  · cases hi with
    | none=>simp [sliceBounds,HT.sIx]
    | some i=>
      simp only [sliceBounds,HT.sIx,Option.getD_none,show (1:Int)>0 by decide,if_true];by_cases h:i<0
      · simp only [h,if_true] <;> omega
      · simp only [h,if_false] <;> omega
theorem Ip (its:List Value) (lo hi:Option Int):slicePick its.toArray lo hi none=((its.drop (HT.sIx its.length 0 lo)).take (HT.sIx its.length its.length hi - HT.sIx its.length 0 lo)).toArray:=by
  obtain ⟨h1,h2,h3⟩:=JE lo hi its.toArray.size;unfold slicePick;rw [h1,h2,h3];simp only [sliceRange_one,pick_run,List.size_toArray] <;> rfl
def Qg (K:PySem.W.Frag):V->Option Int->Option Int->Hp->VK->Prop:=λ x lo hi H Q=>∃ a xs,x= .ref a/\SqL K H a xs/\∀ p,H p=none->Q (.ref p) (upd H p (.lst (Fn xs lo hi)))
theorem O2:SlR X (Qg X.K):=by
  intro pins s σ H x v vl vu lo hi sl Q I rx hs pl pu h;obtain ⟨a,xs,rfl,hx,q⟩:=h;cases rx;obtain ⟨its,r,ht,hz⟩:=I.list hx;have hlen:=r.length;refine ⟨"list",_,slot_list_getitem.lookup,ht.isList.typeIs,?_⟩;refine wpAny_getItem_list_slice ht.isList hs pl pu .none (by simp) ?_ (by rw [List.size_toArray] <;> omega);rw [Ip, <-hlen];refine ⟨.ref s.heap.objs.size,_,I.laid (t':=s.toks) (o:= .lst (Fn xs lo hi)) (λ b ob q=>Heap.get?_push_of_some _ q) (Nat.le_refl _) ?_,rfl,q _ (I.hok.fresh (Nat.le_refl _))⟩;exact ⟨Nat.le_trans (Ks xs lo hi) hz,_,0,(r.drop (HT.sIx xs.length 0 lo)).take (HT.sIx xs.length xs.length hi - HT.sIx xs.length 0 lo),Heap.get?_push_size _ rfl⟩
noncomputable def Bf:V->Bool
  | .non=>true
  | .bl _=>true
  | .int _=>true
  | .str _=>true
  | _=>false
noncomputable def eqV:V->V->Bool
  | .non, .non=>true
  | .bl a, .bl b=>a == b
  | .bl a, .int b=>(if a then 1 else 0) == b
  | .int a, .bl b=>a == (if b then 1 else 0)
  | .int a, .int b=>a == b
  | .str a, .str b=>a == b
  | _,_=>false
theorem Np {A:Around} {s:Shared} {y x:V} {u v:Value} (ry:RelV y u) (rx:RelV x v) (fy:Bf y=true) (fx:Bf x=true):SeqAt.EqAt A s u v (eqV y x):=by
  cases y with
  | non=>
    cases ry;cases x with
    | non=>cases rx;exact SeqAt.EqAt.same _
    | bl b=>cases rx;exact SeqAt.EqAt.none_bool b
    | int b=>obtain ⟨t,rfl⟩:=rx;exact SeqAt.EqAt.none_int b t
    | str b=>obtain ⟨t,rfl⟩:=rx;exact SeqAt.EqAt.none_str b t
    | _=>exact absurd (show false=true from fx) Bool.false_ne_true
  | bl a=>
    cases ry;cases x with
    | non=>cases rx;exact SeqAt.EqAt.bool_none a
    | bl b=>cases rx;exact SeqAt.EqAt.bool_bool a b
    | int b=>obtain ⟨t,rfl⟩:=rx;exact SeqAt.EqAt.bool_int a b t
    | str b=>obtain ⟨t,rfl⟩:=rx;exact SeqAt.EqAt.bool_str a b t
    | _=>exact absurd (show false=true from fx) Bool.false_ne_true
  | int a=>
    obtain ⟨t',rfl⟩:=ry;cases x with
    | non=>cases rx;exact SeqAt.EqAt.int_none a t'
    | bl b=>cases rx;exact SeqAt.EqAt.int_bool a t' b
    | int b=>obtain ⟨t,rfl⟩:=rx;exact SeqAt.EqAt.int_int a t' b t
    | str b=>obtain ⟨t,rfl⟩:=rx;exact SeqAt.EqAt.int_str a t' b t
    | _=>exact absurd (show false=true from fx) Bool.false_ne_true
  | str a=>
    obtain ⟨t',rfl⟩:=ry;cases x with
    | non=>cases rx;exact SeqAt.EqAt.str_none a t'
    | bl b=>cases rx;exact SeqAt.EqAt.str_bool a t' b
    | int b=>obtain ⟨t,rfl⟩:=rx;exact SeqAt.EqAt.str_int a t' b t
    | str b=>obtain ⟨t,rfl⟩:=rx;exact SeqAt.EqAt.str_str a t' b t
    | _=>exact absurd (show false=true from fx) Bool.false_ne_true
  | _=>exact absurd (show false=true from fy) Bool.false_ne_true
noncomputable def eqU (x:V) (u:Value):Bool:=match u with
  | .none=>eqV .non x
  | .bool b=>eqV (.bl b) x
  | .int i _=>eqV (.int i) x
  | .str z _=>eqV (.str z) x
  | _=>false
theorem M8 {x y:V} {u:Value} (r:RelV y u) (f:Bf y=true):eqU x u=eqV y x:=by
  cases y with
  | non=>cases r;rfl
  | bl b=>cases r;rfl
  | int i=>obtain ⟨t,rfl⟩:=r;rfl
  | str z=>obtain ⟨t,rfl⟩:=r;rfl
  | _=>exact absurd (show false=true from f) Bool.false_ne_true
theorem Jh {x:V}:∀ {xs:List V} {us:List Value},Vals xs us->xs.all Bf=true->us.any (eqU x)=xs.any λ y=>eqV y x
  | _,_, .nil,_=>rfl
  | y::xs,u::us, .cons r t,f=>by
    rw [List.all_cons,Bool.and_eq_true] at f;rw [List.any_cons,List.any_cons,M8 r f.1,Jh t f.2]
theorem Ho {A:Around} {s:Shared} {x:V} {v:Value} (rx:RelV x v) (fx:Bf x=true):∀ {xs:List V} {us:List Value},Vals xs us->xs.all Bf=true->∀ u∈us,SeqAt.EqAt A s u v (eqU x u)
  | _,_, .nil,_=>λ u hu=>by cases hu
  | y::xs,u::us, .cons r t,f=>λ u' hu=>by
    rw [List.all_cons,Bool.and_eq_true] at f;rcases List.mem_cons.mp hu with rfl | hu
    · rw [M8 r f.1];exact Np r rx f.1 fx
    · exact Ho rx fx t f.2 u' hu
noncomputable def inV (x:V) (xs:List V):Bool:=xs.any λ y=>eqV y x
def rIn (K:PySem.W.Frag) (neg:Bool):R2:=λ x y H Q=>∃ p xs,y= .ref p/\(SqL K H p xs\/SqT K H p xs)/\Bf x=true/\xs.all Bf=true/\Q (.bl (if neg then !inV x xs else inV x xs)) H
theorem Mz:OpR X (compareOp .In) (rIn X.K false):=by
  intro pins s σ H x y v u Q I rx ry h;obtain ⟨p,xs,rfl,hq,fx,fs,q⟩:=h;cases ry;rcases hq with hq | hq
  · obtain ⟨its,r,pl,hz⟩:=I.list hq;refine SeqAt.in_listAt (eqU x) pl.isList (λ w hw=>Ho rx fx r fs w (by simpa using hw)) ⟨.bl _,H,I,rfl,?_⟩;rw [show its.toArray.any (eqU x)=its.any (eqU x) by simp,Jh r fs];exact q
  · obtain ⟨its,r,pl,hz⟩:=I.tuple hq;refine SeqAt.in_tupleAt (eqU x) pl (λ w hw=>Ho rx fx r fs w (by simpa using hw)) ⟨.bl _,H,I,rfl,?_⟩;rw [show its.toArray.any (eqU x)=its.any (eqU x) by simp,Jh r fs];exact q
theorem Jr:BG X (.type "list") (λ xs H Q=>∃ p ys,xs=[.ref p]/\(SqL X.K H p ys\/SqT X.K H p ys)/\∀ l,H l=none->Q (.ref l) (upd H l (.lst ys))):=by
  intro pins s σ H xs us Q I r h;obtain ⟨p,ys,rfl,hq,q⟩:=h;obtain ⟨u,rfl,rx⟩:=EJ r;cases rx;have fin:∀ (its:List Value),Vals ys its->ys.length<=sizeLine->∀ (h':Heap) (c':Nat),(∀ b o',s.heap.get? b=some o'->h'.get? b=some o')->
      h'.get? s.heap.objs.size=some { cls:= .type "list",dict:=none,data:= .seq its.toArray c',slots:= #[] }->EP X pins σ Q (.ref s.heap.objs.size) { s with heap:=h' }:=λ its r' hz h' c' kp e=>
    ⟨.ref s.heap.objs.size,_,I.laid (t':=s.toks) kp (Nat.le_refl _) (show ObjOk X.prog X.w _ h' _ (.lst ys) from ⟨hz,its,c',r',e⟩),rfl,q _ (I.hok.fresh (Nat.le_refl _))⟩
  rcases hq with hq | hq
  · obtain ⟨its,r',pl,hz⟩:=I.list hq;have hlen:=r'.length;obtain ⟨o,ho,hc,n,hd⟩:=pl.isList;exact call_list_seq p (.inl rfl) ho hc hd (λ h' c' kp e=>fin its r' hz h' c' kp e) (by simp only [List.size_toArray] <;> omega)
  · obtain ⟨its,r',pl,hz⟩:=I.tuple hq;have hlen:=r'.length;obtain ⟨o,ho,hc,n,hd⟩:=pl;exact call_list_seq p (.inr rfl) ho hc hd (λ h' c' kp e=>fin its r' hz h' c' kp e) (by simp only [List.size_toArray] <;> omega)
theorem Ij:BG X (.type "tuple") (λ xs H Q=>∃ p ys,xs=[.ref p]/\((SqL X.K H p ys/\∀ l,H l=none->Q (.ref l) (upd H l (.tup ys)))\/(SqT X.K H p ys/\Q (.ref p) H))):=by
  intro pins s σ H xs us Q I r h;obtain ⟨p,ys,rfl,h⟩:=h;obtain ⟨u,rfl,rx⟩:=EJ r;cases rx;rcases h with ⟨hq,q⟩ | ⟨hq,q⟩
  · obtain ⟨its,r',pl,hz⟩:=I.list hq;have hlen:=r'.length;refine call_tuple_list pl.isList (λ h' kp=> ?_) (by simp only [List.size_toArray] <;> omega);have I1:Inv X pins σ H { s with heap:=h' }:=I.kept (t':=s.toks) kp;have I2:Inv X pins σ (upd H h'.objs.size (.tup ys)) { s with heap:=h'.push { cls:= .type "tuple",data:= .seq its.toArray } }:=
      I1.laid (t':=s.toks) (λ b o e=>Heap.get?_push_of_some _ e) (Nat.le_refl _) (show ObjOk X.prog X.w _ _ _ (.tup ys) from ⟨hz,its,r',IsTup.new _ _⟩)
    exact ⟨.ref h'.objs.size,_,I2,rfl,q _ (I1.hok.fresh (Nat.le_refl _))⟩
  · obtain ⟨its,r',pl,hz⟩:=I.tuple hq;exact call_tuple_same pl ⟨.ref p,H,I,rfl,q⟩
def tyV (K:PySem.W.Frag) (T:String) (x:V) (H:Hp):Prop:=match x with
  | .str _=>T="str"
  | .int _=>T="int"
  | .ref p=>(T="list"/\∃ xs,SqL K H p xs)\/(T="tuple"/\∃ o,K.lookup p=some o/\o.cls= .type "tuple"/\o.dict=none)\/
      (T="dict"/\((∃ kvs,H p=some (.dK kvs))\/∃ kvs,H p=some (.dT kvs)))\/(T="set"/\∃ S n,H p=some (.set S n))
  | _=>False
theorem Ng {pins:List (Addr × Obj)} {σ:St} {H:Hp} {s:Shared} {T:String} {x:V} {v:Value} (I:Inv X pins σ H s) (r:RelV x v) (ty:tyV X.K T x H):
    s.TypeIs v T/\∀ a,v= .ref a->∃ ob,s.heap.get? a=some ob/\ob.dict=none:=by
  cases x with
  | str z=>
    obtain ⟨t,rfl⟩:=r;cases (show T="str" from ty);exact ⟨typeIs_str s z t,λ _ e=>nomatch e⟩
  | int i=>
    obtain ⟨t,rfl⟩:=r;cases (show T="int" from ty);exact ⟨typeIs_int s i t,λ _ e=>nomatch e⟩
  | ref p=>
    cases r;rcases ty with ⟨rfl,xs,hq⟩ | ⟨rfl,o,hk,hc,hd⟩ | ⟨rfl,hk⟩ | ⟨rfl,S,n,hk⟩
    · obtain ⟨its,_,pl,_⟩:=I.list hq;refine ⟨pl.isList.typeIs,λ a e=> ?_⟩;cases e;obtain ⟨o,n,e,c,hd,_⟩:=pl;exact ⟨o,e,hd⟩
    · refine ⟨⟨o,I.kIn p o hk,hc⟩,λ a e=> ?_⟩;cases e;exact ⟨o,I.kIn _ o hk,hd⟩
    · have z:∃ o,s.heap.get? p=some o/\o.ExactDict:=by
        rcases hk with ⟨kvs,hk⟩ | ⟨kvs,hk⟩
        · obtain ⟨_,_,_,_,o,_,_,e,ex,_⟩:=I.hok p _ hk;exact ⟨o,e,ex⟩
        · obtain ⟨_,_,_,_,o,_,_,e,ex,_⟩:=I.hok p _ hk;exact ⟨o,e,ex⟩
      obtain ⟨o,e,ex⟩:=z;refine ⟨⟨o,e,ex.1⟩,λ a e2=> ?_⟩;cases e2;exact ⟨o,e,ex.2.1⟩
    · obtain ⟨o,_,_,_,e,ex,_⟩:=I.hok p _ hk;refine ⟨⟨o,e,ex.1⟩,λ a e2=> ?_⟩;cases e2;exact ⟨o,e,ex.2.1⟩
  | _=>exact False.elim ty
def Qy (K:PySem.W.Frag) (T:String) (r:V->List V->Hp->VK->Prop) (to:TE):TE:=λ σ H Q=>to σ H λ x H1=>tyV K T x H1/\r x [] H1 Q
def tBM (K:PySem.W.Frag) (T:String) (r:V->List V->Hp->VK->Prop) (to:TE) (t:TA):TE:=λ σ H Q=>to σ H λ x H1=>tyV K T x H1/\t σ H1 λ xs H2=>r x xs H2 Q
variable {o e:Expr} {es:List Expr} {to:TE} {t:TA} {name:Str} {apos cpos:Pos} {T id:String} {r:V->List V->Hp->VK->Prop}
theorem Q7 (pa:PlainAttrs T) (slot:Slot T name id) (hty:typeOf (.builtin id)=pure (.type "method_descriptor")) (hm:MtR X id r) (ho:PE X o to)
    (hbase:attributeBase o name X.env (eval o X.env)=eval o X.env:=by rfl) (hline:(apos.endLine == cpos.line)=true:=by rfl):PE X (.Call (.Attribute o name apos) [] [] cpos) (Qy X.K T r to):=by
  intro pins s σ H Q I h;refine wpAny_Call_method0_late hbase hline (thn (ho pins s σ H _ I h) λ v s1 ⟨x,H1,I1,r1,ty,q1⟩=> ?_);obtain ⟨h1,h2⟩:=Ng I1 r1 ty;exact ⟨T,id,pa,slot,hty,h1,h2,Calls.callWith_builtin rfl (PySem.evalArgs_none (hm pins s1 σ H1 x [] v [] Q I1 r1 .nil q1))⟩
theorem Tn (pa:PlainAttrs T) (slot:Slot T name id) (hty:typeOf (.builtin id)=pure (.type "method_descriptor")) (hm:MtR X id r) (ho:PE X o to) (ha:PA X (e::es) t)
    (hbase:attributeBase o name X.env (eval o X.env)=eval o X.env:=by rfl)
    (hfew:((backTo cpos (starEach (e::es) X.env)).all (λ x=> !x.1)&&(backToKw cpos (keywordEach [] X.env)).all (λ x=>x.1.isSome)
      && decide ((e::es).length+([]:List Keyword).length+(if ([]:List Keyword).isEmpty then 0 else 1)<30))=true:=by rfl)
    (hline:(apos.endLine == cpos.line)=true:=by rfl) (hs:starEach (e::es) X.env=(false,eval e X.env)::starEach es X.env:=by rfl) (hplain:(backTo cpos (starEach es X.env)).any (·.1)=false:=by rfl):
    PE X (.Call (.Attribute o name apos) (e::es) [] cpos) (tBM X.K T r to t):=by
  intro pins s σ H Q I h;refine wpAny_Call_method_late hbase hfew hline rfl (thn (ho pins s σ H _ I h) λ v s1 ⟨x,H1,I1,r1,ty,q1⟩=> ?_);obtain ⟨h1,h2⟩:=Ng I1 r1 ty;refine ⟨T,id,pa,slot,hty,h1,h2,?_⟩;have hA:=ha cpos pins s1 σ H1 _ I1 q1;rw [hs] at hA ⊢;refine Calls.callWith_builtin (by show (false||(backTo cpos (starEach es X.env)).any (·.1))=false;rw [hplain] <;> rfl) (Calls.evalArgs_plain ?_);exact thn hA λ us s2 ⟨vs,H2,I2,r2,q2⟩=>hm pins s2 σ H2 x vs v us Q I2 r1 r2 q2
end
def MtM (X:Cx) (id:String) (r:V->List V->Hp->VK->Prop):Prop:=
  ∀ (pins:List (Addr × Obj)) (s:Shared) (σ:St) (H:Hp) (x:V) (xs:List V) (v:Value) (us:List Value) (Q:VK),Inv X pins σ H s->RelV x v->Vals xs us->r x xs H Q->
    wpAny (model X.prog X.w) X.A (call (.builtin id) (v::us)) (EP X pins σ Q) X.xe s
theorem Vals.one:∀ {x:V} {us:List Value},Vals [x] us->∃ u,us=[u]/\RelV x u
  | _,_, .cons r .nil=>⟨_,rfl,r⟩
theorem Vals.zero:∀ {us:List Value},Vals [] us->us=[]
  | _, .nil=>rfl
theorem Vals.dropLast {xs:List V} {us:List Value} (h:Vals xs us):Vals xs.dropLast us.dropLast:=by
  induction h with
  | nil=>exact .nil
  | cons r t ih=>
    cases t with
    | nil=>exact .nil
    | cons q t'=>exact .cons r ih
theorem Vals.rep {xs:List V} {us:List Value} (h:Vals xs us):∀ k:Nat,Vals (List.replicate k xs).flatten (List.replicate k us).flatten
  | 0=> .nil
  | k+1=>by
    rw [List.replicate_succ,List.replicate_succ,List.flatten_cons,List.flatten_cons];exact Vals.append h (Vals.rep h k)
theorem La {α:Type} (l:List α):l.eraseIdx (l.length - 1)=l.dropLast:=by
  induction l with
  | nil=>rfl
  | cons a r ih=>
    cases r with
    | nil=>rfl
    | cons b r=>
      have e:(a::b::r).length - 1=((b::r).length - 1)+1:=by
        have h1:(a::b::r).length=r.length+2:=rfl;have h2:(b::r).length=r.length+1:=rfl;omega
      rw [e,List.eraseIdx_cons_succ,ih]
      all_goals rfl
theorem IR (its:List Value):∀ (k:Nat) (acc:List Value),
    List.foldl (λ x1 x2=>x1++x2) acc.toArray (List.replicate k its.toArray)=(acc++(List.replicate k its).flatten).toArray
  | 0,acc=>by simp
  | k+1,acc=>by
    have e:acc.toArray++its.toArray=(acc++its).toArray:=by simp
    have e2:(acc++its)++(List.replicate k its).flatten=acc++(List.replicate (k+1) its).flatten:=by
      rw [List.replicate_succ,List.flatten_cons,List.append_assoc]
    rw [<-e2, <-IR its k (acc++its), <-e,List.replicate_succ,List.foldl_cons]
section
variable {X:Cx} {pins:List (Addr × Obj)} {σ:St} {H:Hp} {s:Shared} {l b:Addr} {xs ys zs:List V}
theorem Inv.lset {its its':List Value} {n:Nat} {f:Array Value->Array Value} {t':Nat} (I:Inv X pins σ H s) (hH:H l=some (.lst xs))
    (e:s.heap.get? l=some { cls:= .type "list",data:= .seq its.toArray n }) (hf:f its.toArray=its'.toArray) (hv:Vals ys its') (hz:ys.length<=sizeLine):
    Inv X pins σ (upd H l (.lst ys)) { s with heap:=s.heap.update l (Obj.mapSeq f),toks:=t' }:=by
  have q:=PySem.IsL.update e f;rw [hf] at q;refine I.write (x:=l) (e:=l) (by rw [hH];exact trivial) (.inl rfl) (λ b' u hb hu=>(Heap.get?_update_other s.heap (Obj.mapSeq f) (Ne.symm hb)).trans hu) ⟨_,q⟩ ?_;exact ⟨hz,its',_,hv,q⟩
theorem Inv.lnew {its:List Value} {t':Nat} (I:Inv X pins σ H s) (hv:Vals ys its) (hz:ys.length<=sizeLine):
    Inv X pins σ (upd H s.heap.objs.size (.lst ys)) { s with heap:=s.heap.push { cls:= .type "list",data:= .seq its.toArray },toks:=t' }:=
  I.laid (λ _ _ q=>Heap.get?_push_of_some _ q) (Nat.le_refl _) ⟨hz,its,0,hv,Heap.get?_push_size _ rfl⟩
theorem Inv.fresh (I:Inv X pins σ H s):H s.heap.objs.size=none:=I.hok.fresh (Nat.le_refl _)
theorem Inv.lstM (I:Inv X pins σ H s) (hH:H l=some (.lst xs)):xs.length<=sizeLine/\∃ (its:List Value) (n:Nat),Vals xs its/\xs.length=its.length/\s.heap.get? l=some { cls:= .type "list",data:= .seq its.toArray n }:=by
  obtain ⟨z,its,n,r,e⟩:=I.hok l _ hH;exact ⟨z,its,n,r,r.length,e⟩
theorem Ku {n:Nat} (h:n<=sizeLine):Builtin.List.listTooLong n=false:=by
  unfold Builtin.List.listTooLong;exact decide_eq_false (by omega)
end
section
variable {X:Cx}
def rAppend:V->List V->Hp->VK->Prop:=λ x vs H Q=>∃ l xs y,x= .ref l/\vs=[y]/\H l=some (.lst xs)/\xs.length<sizeLine/\Q .non (upd H l (.lst (xs++[y])))
theorem AO:MtM X "list.append" rAppend:=by
  intro pins s σ H x vs v us Q I rx rv h;obtain ⟨l,xs,y,rfl,rfl,hH,hz,q⟩:=h;cases rx;obtain ⟨u,rfl,ru⟩:=rv.one;obtain ⟨z,its,n,r,hl,e⟩:=I.lstM hH;refine call_meets F.slot_list_append ⟨_,e,rfl⟩ F.entry_list_append (F.args_list_append_2 _ _) (PySem.list_append l its.toArray n u (by rw [List.size_toArray];omega)) ⟨e,?_⟩;refine ⟨.non,_,I.lset (its':=its++[u]) hH e (by simp) (r.append (.cons ru .nil)) ?_,rfl,q⟩;rw [List.length_append,List.length_singleton];omega
def rExtend:V->List V->Hp->VK->Prop:=λ x vs H Q=>∃ l b xs zs,x= .ref l/\vs=[.ref b]/\H l=some (.lst xs)/\H b=some (.lst zs)/\xs.length+zs.length<=sizeLine/\Q .non (upd H l (.lst (xs++zs)))
theorem IY:MtM X "list.extend" rExtend:=by
  intro pins s σ H x vs v us Q I rx rv h;obtain ⟨l,b,xs,zs,rfl,rfl,hH,hB,hz,q⟩:=h;cases rx;obtain ⟨u,rfl,ru⟩:=rv.one;cases ru;obtain ⟨z,its,n,r,hl,e⟩:=I.lstM hH;obtain ⟨z2,its2,n2,r2,hl2,e2⟩:=I.lstM hB;have hsz:its.toArray.size+its2.toArray.size<=sizeLine:=by rw [List.size_toArray,List.size_toArray];omega
  have hlong:¬ (!its.toArray.isEmpty&&Builtin.List.listTooLong (its.toArray.size+its2.toArray.size))=true:=by
    rw [Ku hsz,Bool.and_false];exact Bool.false_ne_true
  refine call_meets F.slot_list_extend ⟨_,e,rfl⟩ F.entry_list_extend (F.args_list_extend_2 _ _)
    (AutoSeq1.list_extend_list_list_0 l its.toArray n b its2.toArray n2 hlong (by rw [List.size_toArray];omega) (by omega)) ⟨e,e2,?_⟩
  refine ⟨.non,_,I.lset (its':=its++its2) hH e (by simp) (r.append r2) ?_,rfl,q⟩;rw [List.length_append];omega
def rPop:V->List V->Hp->VK->Prop:=λ x vs H Q=>∃ l xs y,x= .ref l/\vs=[]/\H l=some (.lst xs)/\xs[xs.length - 1]?=some y/\Q y (upd H l (.lst xs.dropLast))
theorem Oe:MtM X "list.pop" rPop:=by
  intro pins s σ H x vs v us Q I rx rv h;obtain ⟨l,xs,y,rfl,rfl,hH,hy,q⟩:=h;cases rx;have hus:=rv.zero;subst hus;obtain ⟨z,its,n,r,hl,e⟩:=I.lstM hH;obtain ⟨u,hu,ru⟩:=r.get hy;have hy':its.toArray[its.toArray.size - 1]?=some u:=by
    show its.toArray[its.length - 1]?=some u;rw [<-Array.getElem?_toList, <-hl];exact hu
  refine call_meets F.slot_list_pop ⟨_,e,rfl⟩ F.entry_list_pop (F.args_list_pop_1 _) (MeetsSeq.list_pop_last l its.toArray n u hy' (by rw [List.size_toArray];omega)) ⟨e,?_⟩;refine ⟨y,_,I.lset (its':=its.dropLast) hH e ?_ r.dropLast ?_,ru,q⟩
  · show its.toArray.eraseIdxIfInBounds (its.toArray.size - 1)=its.dropLast.toArray;rw [List.size_toArray,List.eraseIdxIfInBounds_toArray,La]
  · rw [List.length_dropLast];omega
def Vx:R2:=λ x y H Q=>∃ l k xs,x= .ref l/\y= .int k/\H l=some (.lst xs)/\ -(2 ^ 63)<=k/\k<2 ^ 63/\xs.length*k.toNat<=sizeLine/\
  ∀ p,H p=none->Q (.ref p) (upd H p (.lst (List.replicate k.toNat xs).flatten))
theorem Pa {α:Type} (xs:List α) (k:Nat):(List.replicate k xs).flatten.length=k*xs.length:=by
  induction k with
  | zero=>simp
  | succ k ih=>rw [List.replicate_succ,List.flatten_cons,List.length_append,ih,Nat.succ_mul,Nat.add_comm]
theorem JD:OpR X (binaryOp .Mult) Vx:=by
  intro pins s σ H x y v u Q I rx ry h;obtain ⟨l,k,xs,rfl,rfl,hH,h1,h2,hz,q⟩:=h;cases rx;obtain ⟨t,rfl⟩:=ry;obtain ⟨z,its,n,r,hl,e⟩:=I.lstM hH;have hlen:its.toArray.size*k.toNat<=sizeLine:=by rw [List.size_toArray, <-hl];exact hz
  have hcap:¬ its.toArray.size*k.toNat>(2 ^ 63 - 1) / 8:=by
    have:(sizeLine:Nat)<=(2 ^ 63 - 1) / 8:=by decide
    omega
  have hfit:¬ (!Builtin.List.listFitsIndex k)=true:=by
    rw [fitsIndex_both h1 h2];exact Bool.false_ne_true
  have hlong:¬ Builtin.List.listTooLong (its.toArray.size*k.toNat)=true:=by
    rw [Ku hlen];exact Bool.false_ne_true
  have hnew:List.foldl (λ x1 x2=>x1++x2) #[] (List.replicate (if its.toArray.isEmpty=true then 0 else k.toNat) its.toArray)=(List.replicate k.toNat its).flatten.toArray:=by
    have f0:∀ m:Nat,List.foldl (λ x1 x2=>x1++x2) #[] (List.replicate m its.toArray)=(List.replicate m its).flatten.toArray:=λ m=>by
      have:=IR its m [];rw [List.nil_append] at this;exact this
    rw [f0];cases its with
    | nil=>simp
    | cons a r'=>rw [if_neg (by simp)]
  refine wpAny_binaryOp_repeat_ref (T:="list") (U:="int") (by decide) ⟨_,e,rfl⟩ (λ s'=>typeIs_int s' k t) noFill_list_mul F.fills_int_mul F.slot_int_rmul repeat_list F.slot_int_index.lookup
    (call_meets F.slot_int_rmul (typeIs_int s k t) F.entry_int_rmul (F.args_int_rmul_2 _ _) (int___rmul___int_list k t l its.toArray n)
      ⟨e,rfl,⟨_,e,rfl⟩,call_meets F.slot_list_mul ⟨_,e,rfl⟩ F.entry_list_mul (F.args_list_mul_2 _ _) (AutoListH.list___mul___list_int_3 l its.toArray n k t hfit hcap hlong) ⟨e,?_⟩⟩)
  rw [hnew];exact ⟨.ref _,_,I.lnew (t':=s.toks) (r.rep k.toNat) (by rw [Pa,Nat.mul_comm];exact hz),rfl,q _ I.fresh⟩
end
section
variable {prog:Program} {w:World} {A:Around} {E:Value->Shared->Prop} {s:Shared}
end
section
variable {X:Cx}
end
end L2
namespace Att
open PySem PySem.W PySem.Calls PyProof.Rows
theorem GA {P:Params} {h:Heap}:∀ (ns:List Int) (vs:List Value),WellAll P h vs (ns.map WData.int)->IntsAre vs ns:=by
  intro ns
  induction ns with
  | nil=>
    intro vs w;rw [List.map_nil] at w;cases w;exact .nil
  | cons n ns ih=>
    intro vs w;rw [List.map_cons] at w;cases w with
    | cons a b=>
      cases a;exact .cons _ _ (ih _ b)
theorem ML {l:OpenLaw} {n:Nat} (hn:l.most=some n) {P:Params} {h:Heap} {args:List WData} {vals:List Value}
    (hpre:l.row.toRowW.claim.pre args=true) (hwl:WellAll P h vals args):
    ∃ a vs ns,vals=[Value.ref a]/\args=[WData.list (ns.map WData.int)]/\h.get? a=some { cls:= .type "list",data:= .seq vs.toArray }/\IntsAre vs ns/\ns.length<=n:=by
  have hsh:WShape.hasAll [] args [.list .int]=true:=(pre_splitW hpre).1;have hc:l.pre.holds [] { args:=args }=true:=(pre_splitW hpre).2;obtain ⟨d,r,rfl,h1,h2⟩:=hasAllW_cons hsh;obtain rfl:=hasAllW_nil h2;obtain ⟨xs,rfl,h3⟩:=hasW_list h1;obtain ⟨ns,rfl⟩:=items_int h3;have hlen:ns.length<=n:=by
    unfold OpenLaw.pre at hc;have h4:(WTm.not (.lt (.lit (.int (n:Int))) (.len (.arg 0)))).holds [] { args:=[.list (ns.map .int)] }=true:=by
      have h4:=(holds_andW hc).1;rw [hn] at h4;exact h4
    have h5:=condW_of h4 (w_not (w_lt w_lit (w_len_list (w_arg rfl))));rw [List.length_map] at h5;refine Nat.le_of_not_lt λ q=> ?_;have q':(n:Int)<((ns.length:Nat):Int):=by omega
    first
      | (rw [decide_eq_true q'] at h5;exact absurd h5 (by decide))
      | (simp at h5;omega)
  cases hwl with
  | cons w1 w2=>
    cases w2;cases w1 with
    | list ho hall=>exact ⟨_,_,ns,rfl,rfl,ho,GA ns _ hall,hlen⟩
theorem My (l:OpenLaw) (args:List WData):l.row.toRowW.claim.post args (.bool true) args=true:=
  postW_of (r:=l.row.toRowW) (X:=(true == true))
    (show WShape.has [] (.bool true) .bool=true by first | rfl | decide | simp [WShape.has,WShape.arms,WShape.armsAll])
    (show (WTm.eq .res (.lit (.bool true))).value [] { args:=args,res:=some (.bool true),after:=args }=some (.bool (true == true)) from w_eq_bool (w_res rfl) w_lit) rfl
theorem attach_call {l:OpenLaw} {n:Nat} {q:Program} {loose:List Str} {XP:(Str->Option Value)->Heap->Prop} {YP:World->Heap->Prop} {d:DefRec}
    (hn:l.most=some n) (hdf:d.params.defaults=[])
    (call:∀ (w:World) (s₀ s₁:Shared) (mg mb:Str->Option Value) (fa:Addr) (o:Obj) (pm cd doc:Value) (a:Addr) (vs:List Value) (ns:List Int),
      Ground q loose [] XP w s₀ mg mb s₁.heap->YP w s₁.heap->
      s₁.heap.get? fa=some o->o.data= .func (docDef d.name d.params d.body d.scope pm cd doc)->s₁.heap.CodeRec cd d.name->mg d.name=some (.ref fa)->
      s₁.heap.get? a=some { cls:= .type "list",data:= .seq vs.toArray }->IntsAre vs ns->ns.length<=n->s₁.gens= #[]->
      codeAny (model l.prog w) callerA (.call (.ref fa) ⟨[.ref a],[]⟩) (λ r s'=>r= .ok (.ret (.bool true))/\OldK s₁.heap s'.heap/\s'.os=s₁.os/\AllBare s'.gens) s₁):
    WalkO q loose XP YP l.row.toRowW d [] (λ f vs=>PySem.call f vs):=by
  intro w s₀ s₁ mg mb G Y fa o pm cd doc dV kV ho hd hcd hD hmg hg args vals as hpre hlay hrd hwl hlo;obtain rfl:dV= .none:=Dflts.none hD hdf;obtain rfl:kV= .none:=Dflts.noKw hD;obtain ⟨a,vs,ns,rfl,rfl,hobj,hints,hlen⟩:=ML hn hpre hwl;refine enter_call (codeAny_mono (call w s₀ s₁ mg mb fa o pm cd doc a vs ns G Y ho (fd_plain hd) hcd hmg hobj hints hlen hg) λ r s' hq=> ?_);obtain ⟨rfl,h2,h3,h4⟩:=hq;exact ⟨.inl ⟨.bool true, .bool true,[],rfl,λ _=>rfl, .bool true,My l _,λ _=>⟨List.Pairwise.nil,λ _ hm=>(nomatch hm)⟩⟩,h2,h3,h4⟩
section
variable {prog:Program} {w:World} {A:Around} {E:Value->Shared->Prop} {s:Shared} {K:Frag}
end
end Att
namespace L2
open PySem PySem.Spec PyProof.Rows
theorem Iu:∀ {vs:List Value} {ns:List Int},IntsAre vs ns->Vals (ns.map V.int) vs
  | _,_, .nil=> .nil
  | _,_, .cons n t h=> .cons ⟨t,rfl⟩ (Iu h)
abbrev CX0:CXT:=λ _ _ _ _ _ _=>False
abbrev E0:XK:=λ _ _ _=>False
theorem LW {X:Cx}:E2 CX0 X E0:=λ _ _ _ _ _ _ _ h=>h.elim
structure Fun (K:PySem.W.Frag) (x qual:Str) (st:Stmt) (f:Addr) (fd:FuncData):Prop where
  ex:∃ (oc:Value) (od:Option Addr) (kV doc pm:Value) (an:Option Addr) (cdv ct:Value) (osl:Array (Option Value)),
    fd=PySem.W.fnOf x qual (Et st) (CJ st) (Ai st) .none kV doc pm an cdv ct/\K.lookup f=some ⟨oc,od, .func fd,osl⟩/\PySem.W.codeIn K cdv qual=true
  kp:PySem.W.keepIn K (.ref f)=true
section
variable {P:Program} {w:World} {K:PySem.W.Frag} {mg:Str->Option Value} {base:Heap}
theorem Fun.ok {x qual:Str} {st:Stmt} {f:Addr} {fd:FuncData} {N ps:List Str} {k:Nat} {sp:Sp} (F:Fun K x qual st f fd) (S:FnScope N ps (Ai st)) (len:∀ vs H Q E,sp vs H Q E->vs.length=ps.length)
    (hbody:∀ (cdv:Value) (A:Around) (outer:List Env) (s:Shared) (H:Hp) (vs:List V) (Q:VK) (E:XK),Room k (A.deeper (envOfC qual (Ai st) s.heap.objs.size f cdv))->sp vs H Q E->
      ∃ t,PSs (Ln CX0 P w K mg base N qual (Ai st) f cdv A outer s H E).nox (CJ st) t/\t { nx:=λ _ H'=>Q .non H',rt:=Q } (start N vs) H):FnOk P w K mg base CX0 (k+1) f fd ps sp:=by
  obtain ⟨oc,od,kV,doc,pm,an,cdv,ct,osl,rfl,lk,hcd⟩:=F.ex;refine P5 lk hcd S len λ A outer s H vs Q E hr hsp=> ?_;obtain ⟨t,h,q⟩:=hbody cdv A outer s H vs Q E hr hsp;exact ⟨t,h.nox,q⟩
theorem fun_mk {x qual:Str} {st:Stmt} {f:Addr} {oc:Value} {od an:Option Addr} {osl:Array (Option Value)} {kV doc pm cdv ct:Value} (l:K.lookup f=some ⟨oc,od, .func (PySem.W.fnOf x qual (Et st) (CJ st) (Ai st) .none kV doc pm an cdv ct),osl⟩)
    (c:PySem.W.codeIn K cdv qual=true) (k:PySem.W.keepIn K (.ref f)=true):Fun K x qual st f (PySem.W.fnOf x qual (Et st) (CJ st) (Ai st) .none kV doc pm an cdv ct):=⟨⟨oc,od,kV,doc,pm,an,cdv,ct,osl,rfl,l,c⟩,k⟩
end
section
variable {X:Cx}
theorem pv (i:Nat) {x:Str} {pos:Pos} (hN:X.N[i]?=some x:=by rfl) (hv:Vis X.env.scope x:=by first | exact Or.inl rfl | exact Or.inr (Or.inl rfl) | exact Or.inr (Or.inr rfl)) (hd:(x == ("__debug__":Str))=false:=by decide)
    (hcd:(x == ("__classdict__":Str))=false:=by decide):PE X (.Name x pos) (Lb i):=Qn hN hv hd hcd
end
theorem Ls {A B:Prop} (h:B):if false=true then A else B:=by
  rw [if_neg Bool.false_ne_true];exact h
theorem HU {A B:Prop} (h:A):if true=true then A else B:=by
  rw [if_pos rfl];exact h
def Same (H H':Hp):Prop:=∀ b o,H b=some o->H' b=some o
theorem Same.refl (H:Hp):Same H H:=λ _ _ h=>h
theorem Same.trans {H H1 H2:Hp} (a:Same H H1) (b:Same H1 H2):Same H H2:=λ c o h=>b c o (a c o h)
theorem Same.free {H H':Hp} (e:Same H H') {l:Addr} (h:H' l=Option.none):H l=Option.none:=by
  cases q:H l with
  | none=>rfl
  | some o=>
    rw [e l o q] at h;cases h
theorem Same.seq {K:PySem.W.Frag} {H H':Hp} {a:Addr} {xs:List V} (e:Same H H') (h:SqL K H a xs):SqL K H' a xs:=by
  rcases h with (h | ⟨o,h⟩) | h
  · exact .inl (.inl (e _ _ h))
  · exact .inl (.inr ⟨o,e _ _ h⟩)
  · exact .inr h
section
variable {κ:Type} [DecidableEq κ]
noncomputable def CF (kvs:List (κ × V)) (k:κ):Option V:=(kvs.find? λ kv=>decide (kv.1=k)).map (·.2)
noncomputable def FJ (kvs:List (κ × V)) (k:κ) (v:V):List (κ × V):=
  if (kvs.any λ kv=>decide (kv.1=k))=true then kvs.map (λ kv=>if kv.1=k then (kv.1,v) else kv) else kvs++[(k,v)]
theorem Bl {p:κ × V} {r:List (κ × V)} {k:κ} (e:p.1=k):CF (p::r) k=some p.2:=by simp [CF,List.find?_cons,e]
theorem Bm {p:κ × V} {r:List (κ × V)} {k:κ} (e:¬ p.1=k):CF (p::r) k=CF r k:=by simp [CF,List.find?_cons,e]
theorem FH (k:κ):∀ kvs:List (κ × V),(kvs.any λ kv=>decide (kv.1=k))=(CF kvs k).isSome
  | []=>rfl
  | p::r=>by
    rw [List.any_cons];by_cases e:p.1=k
    · simp only [Bl e,decide_eq_true e,Bool.true_or,Option.isSome_some]
    · rw [Bm e,decide_eq_false e,Bool.false_or];exact FH k r
theorem J1 (k j:κ) (y:V):∀ kvs:List (κ × V),CF (kvs.map λ kv=>if kv.1=k then (kv.1,y) else kv) j=(CF kvs j).map λ x=>if j=k then y else x
  | []=>rfl
  | p::r=>by
    have ih:=J1 k j y r;rw [List.map_cons];by_cases h:p.1=k
    · rw [if_pos h];by_cases e:p.1=j
      · rw [Bl (p:=(p.1,y)) e,Bl e,Option.map_some,if_pos (e.symm.trans h)]
      · rw [Bm (p:=(p.1,y)) e,Bm e,ih]
    · rw [if_neg h];by_cases e:p.1=j
      · rw [Bl (p:=p) e,Bl e,Option.map_some,if_neg (λ z=>h (e.trans z))]
      · rw [Bm (p:=p) e,Bm e,ih]
theorem IJ (k j:κ) (y:V):∀ kvs:List (κ × V),CF kvs k=none->CF (kvs++[(k,y)]) j=if j=k then some y else CF kvs j
  | [],_=>by
    by_cases e:k=j
    · rw [if_pos e.symm];exact Bl (p:=(k,y)) e
    · rw [if_neg (λ z=>e z.symm)];exact Bm (p:=(k,y)) e
  | p::r,hn=>by
    rw [List.cons_append];have hk:¬ p.1=k:=λ z=>by rw [Bl z] at hn;cases hn
    rw [Bm hk] at hn;have ih:=IJ k j y r hn;by_cases e:p.1=j
    · rw [Bl e,Bl e,if_neg (λ z=>hk (e.trans z))]
    · rw [Bm e,Bm e,ih]
theorem NQ (kvs:List (κ × V)) (k j:κ) (y:V):CF (FJ kvs k y) j=if j=k then some y else CF kvs j:=by
  unfold FJ;by_cases a:(kvs.any λ kv=>decide (kv.1=k))=true
  · rw [if_pos a,J1];rw [FH] at a;by_cases e:j=k
    · obtain ⟨x,hx⟩:=Option.isSome_iff_exists.mp a;rw [if_pos e,e,hx,Option.map_some,if_pos rfl]
    · rw [if_neg e];cases CF kvs j with
      | none=>rfl
      | some x=>rw [Option.map_some,if_neg e]
  · rw [if_neg a];refine IJ k j y kvs ?_;rw [FH] at a;cases q:CF kvs k with
    | none=>rfl
    | some x=>rw [q] at a;exact (a rfl).elim
theorem Ee (kvs:List (κ × V)) (k:κ) (v:V):(FJ kvs k v).length<=kvs.length+1:=by
  unfold FJ;split
  · rw [List.length_map];omega
  · rw [List.length_append,List.length_cons,List.length_nil];omega
theorem RelO.isSome_eq {o:Option V} {u:Option Value} (r:RelO o u):o.isSome=u.isSome:=by
  cases o with
  | none=>cases u with
    | none=>rfl
    | some _=>exact (show False from r).elim
  | some _=>cases u with
    | none=>exact (show False from r).elim
    | some _=>rfl
theorem RelO.getD {o:Option V} {u:Option Value} {d:V} {d':Value} (r:RelO o u) (rd:RelV d d'):RelV (o.getD d) (u.getD d'):=by
  cases o with
  | none=>cases u with
    | none=>exact rd
    | some _=>exact (show False from r).elim
  | some _=>cases u with
    | none=>exact (show False from r).elim
    | some _=>exact r
theorem KV.val {kvs:List (κ × V)} {vs:List (κ × Value)} (r:KV kvs vs) (k:κ):RelO (CF kvs k) (valueAt vs k):=by
  unfold KV at r
  induction r with
  | nil=>exact True.intro
  | @cons p q ps qs h t ih=>
    obtain ⟨h1,h2⟩:=h;by_cases e:p.1=k
    · have e':q.1=k:=h1.symm.trans e;have b:valueAt (q::qs) k=some q.2:=by simp [valueAt,List.find?_cons,e']
      rw [Bl e,b];exact h2
    · have e':¬ q.1=k:=λ z=>e (h1.trans z);have b:valueAt (q::qs) k=valueAt qs k:=by simp [valueAt,List.find?_cons,e']
      rw [Bm e,b];exact ih
theorem KV.any {kvs:List (κ × V)} {vs:List (κ × Value)} (r:KV kvs vs) (k:κ):(kvs.any λ kv=>decide (kv.1=k))=vs.any λ kv=>decide (kv.1=k):=by
  unfold KV at r
  induction r with
  | nil=>rfl
  | cons h t ih=>rw [List.any_cons,List.any_cons,ih,h.1]
theorem KV.repl {kvs:List (κ × V)} {vs:List (κ × Value)} (r:KV kvs vs) (k:κ) {y:V} {u:Value} (ry:RelV y u):
    KV (kvs.map λ kv=>if kv.1=k then (kv.1,y) else kv) (vs.map λ kv=>if kv.1=k then (kv.1,u) else kv):=by
  unfold KV at r ⊢
  induction r with
  | nil=>exact .nil
  | @cons p q ps qs h t ih=>
    rw [List.map_cons,List.map_cons];refine .cons ?_ ih;obtain ⟨h1,h2⟩:=h;by_cases e:p.1=k
    · rw [if_pos e,if_pos (h1.symm.trans e)];exact ⟨h1,ry⟩
    · rw [if_neg e,if_neg (λ z=>e (h1.trans z))];exact ⟨h1,h2⟩
theorem KV.put {kvs:List (κ × V)} {vs:List (κ × Value)} (r:KV kvs vs) (k:κ) {y:V} {u:Value} (ry:RelV y u):KV (FJ kvs k y) (stored vs k u):=by
  unfold FJ stored;rw [r.any k];by_cases e:(vs.any λ kv=>decide (kv.1=k))=true
  · rw [if_pos e,if_pos e];exact r.repl k ry
  · rw [if_neg e,if_neg e];exact Paired.snoc r ⟨rfl,ry⟩
theorem KV.length {kvs:List (κ × V)} {vs:List (κ × Value)} (r:KV kvs vs):kvs.length=vs.length:=Paired.length r
end
theorem Oi {P:Program} {w:World} {k:Key} {u:Value} (r:RelV (kV k) u):(Bj P w).is k u=true:=by
  cases k with
  | inl i=>obtain ⟨t,e⟩:=(show ∃ t,u=Value.int i t from r);subst e;exact Ky P w i t
  | inr x=>obtain ⟨t,e⟩:=(show ∃ t,u=Value.str x t from r);subst e;exact JZ P w x t
theorem IF {P:Program} {w:World}:∀ {ks:List Key} {us:List Value},Vals (ks.map kV) us->ItemsAre (Bj P w) ks us
  | [],_,r=>by rw [List.map_nil] at r;cases r;exact .nil
  | k::ks,_,r=>by
    rw [List.map_cons] at r;cases r with
    | cons h t=>exact .cons (Oi h) (IF t)
abbrev KT (H:Hp):List (List Key × V)->List (List Key × Addr × Value)->Prop:=Paired λ p q=>p.1=q.1/\H q.2.1=some (.tup (p.1.map kV))/\RelV p.2 q.2.2
theorem KT.val {H:Hp} {kvs:List (List Key × V)} {xs:List (List Key × Addr × Value)} (r:KT H kvs xs) (k:List Key):RelO (CF kvs k) ((atKey xs k).map (·.2)):=by
  induction r with
  | nil=>exact True.intro
  | @cons p q ps qs h t ih=>
    obtain ⟨h1,_,h2⟩:=h;by_cases e:p.1=k
    · have e':q.1=k:=h1.symm.trans e;have b:atKey (q::qs) k=some q.2:=by simp [atKey,List.find?_cons,e']
      rw [Bl e,b];exact h2
    · have e':¬ q.1=k:=λ z=>e (h1.trans z);have b:atKey (q::qs) k=atKey qs k:=by simp [atKey,List.find?_cons,e']
      rw [Bm e,b];exact ih
theorem KT.repl {H:Hp} {kvs:List (List Key × V)} {xs:List (List Key × Addr × Value)} (r:KT H kvs xs) (k:List Key) {y:V} {u:Value} (ry:RelV y u):
    KT H (kvs.map λ kv=>if kv.1=k then (kv.1,y) else kv) (xs.map (putAt k u)):=by
  induction r with
  | nil=>exact .nil
  | @cons p q ps qs h t ih=>
    rw [List.map_cons,List.map_cons];refine .cons ?_ ih;obtain ⟨h1,h2,h3⟩:=h;unfold putAt;by_cases e:p.1=k
    · rw [if_pos e,if_pos (h1.symm.trans e)];exact ⟨h1,h2,ry⟩
    · rw [if_neg e,if_neg (λ z=>e (h1.trans z))];exact ⟨h1,h2,h3⟩
theorem KT.put {H:Hp} {kvs:List (List Key × V)} {xs:List (List Key × Addr × Value)} (r:KT H kvs xs) (k:List Key) {b:Addr} {y:V} {u:Value} (hb:H b=some (.tup (k.map kV))) (ry:RelV y u):
    KT H (FJ kvs k y) (storedH xs k b u):=by
  have e:(kvs.any λ kv=>decide (kv.1=k))=(atKey xs k).isSome:=by
    rw [FH,(r.val k).isSome_eq,Option.isSome_map]
  unfold FJ storedH;rw [e];by_cases q:(atKey xs k).isSome=true
  · rw [if_pos q,if_pos q];exact r.repl k ry
  · rw [if_neg q,if_neg q];exact Paired.snoc r ⟨rfl,hb,ry⟩
theorem KT.keeps {H H':Hp} {kvs:List (List Key × V)} {xs:List (List Key × Addr × Value)} (r:KT H kvs xs) (ht:∀ b ys,H b=some (.tup ys)->H' b=some (.tup ys)):KT H' kvs xs:=
  Paired.mapP r λ _ _ z=>⟨z.1,ht _ _ z.2.1,z.2.2⟩
section
variable {P:Program} {w:World} {H:Hp} {h:Heap} {a:Addr}
theorem PK {u:HO} (ok:HOk P w H h) (e:Rd H a u):ObjOk P w H h a u:=e.ok ok
theorem N8 {kvs:List (Key × V)} (ok:HOk P w H h) (e:Rd H a (.dK kvs)):kvs.length<=sizeLine/\(a == sysModules)=false/\∃ vs,KV kvs vs/\h.DictOf (Bj P w) a vs:=
  show ObjOk P w H h a (.dK kvs) from PK ok e
theorem Sd {kvs:List (Key × V)} (ok:HOk P w H h) (e:H a=some (.dK kvs)):kvs.length<=sizeLine/\(a == sysModules)=false/\∃ vs,KV kvs vs/\h.DictOf (Bj P w) a vs:=N8 ok (.inl e)
theorem Jo {ks:List Key} (ok:HOk P w H h) (e:H a=some (.tup (ks.map kV))):(tupleKind (Bj P w)).is h ks a:=by
  obtain ⟨_,its,r,o,h1,h2,n,h3⟩:=(show ObjOk P w H h a (.tup (ks.map kV)) from ok a _ e);exact ⟨o,its.toArray,n,h1,h2,h3,by simpa using IF r⟩
theorem N5 {kvs:List (List Key × V)} (ok:HOk P w H h) (e:Rd H a (.dT kvs)):kvs.length<=sizeLine/\(a == sysModules)=false/\
    ∃ xs,KT H kvs xs/\h.DictOfH (tupleKind (Bj P w)) a xs:=by
  obtain ⟨z,y,xs,r,o,es,ep,h1,h2,h3,h4,h5⟩:=(show ObjOk P w H h a (.dT kvs) from PK ok e);refine ⟨z,y,xs,r,o,es,ep,h1,h2,h3,h4,λ x hx=> ?_,h5⟩;have all:∀ {l:List (List Key × V)} {m:List (List Key × Addr × Value)},KT H l m->∀ x∈m,(tupleKind (Bj P w)).is h x.1 x.2.1:=by
    intro l m q
    induction q with
    | nil=>intro x hx;exact nomatch hx
    | @cons p q ps qs hq t ih=>
      intro x hx;rcases List.mem_cons.mp hx with e | hx
      · subst e;exact Jo ok (by rw [<-hq.1];exact hq.2.1)
      · exact ih x hx
  exact all r x hx
theorem PU {kvs:List (List Key × V)} (ok:HOk P w H h) (e:H a=some (.dT kvs)):kvs.length<=sizeLine/\(a == sysModules)=false/\
    ∃ xs,KT H kvs xs/\h.DictOfH (tupleKind (Bj P w)) a xs:=N5 ok (.inl e)
end
def DGet (H:Hp) (a:Addr) (y:V) (r:Option V):Prop:=
  (∃ kvs k,Rd H a (.dK kvs)/\y=kV k/\r=CF kvs k)\/∃ kvs k b,Rd H a (.dT kvs)/\y= .ref b/\H b=some (.tup (k.map kV))/\r=CF kvs k
def DPut (H:Hp) (a:Addr) (y v:V) (H':Hp):Prop:=
  (∃ kvs k,H a=some (.dK kvs)/\y=kV k/\kvs.length<sizeLine/\H'=upd H a (.dK (FJ kvs k v)))\/
  ∃ kvs k b,H a=some (.dT kvs)/\y= .ref b/\H b=some (.tup (k.map kV))/\kvs.length<sizeLine/\H'=upd H a (.dT (FJ kvs k v))
theorem DGet.t {H:Hp} {a b:Addr} {kvs:List (List Key × V)} {k:List Key} (e:H a=some (.dT kvs)) (eb:H b=some (.tup (k.map kV))):DGet H a (.ref b) (CF kvs k):= .inr ⟨kvs,k,b, .inl e,rfl,eb,rfl⟩
theorem DPut.t {H:Hp} {a b:Addr} {kvs:List (List Key × V)} {k:List Key} {v:V} (e:H a=some (.dT kvs)) (eb:H b=some (.tup (k.map kV))) (hl:kvs.length<sizeLine):
    DPut H a (.ref b) v (upd H a (.dT (FJ kvs k v))):= .inr ⟨kvs,k,b,e,rfl,eb,hl,rfl⟩
section
variable {X:Cx} {pins:List (Addr × Obj)} {σ:St} {H:Hp} {s:Shared} {a:Addr} {y v:V} {u r:Value} {o:Option V} {A:Around} {E:Value->Shared->Prop}
theorem Inv.big (I:Inv X pins σ H s):sysModules<s.heap.objs.size:=by
  have h:mainGlobals<s.heap.objs.size:=(I.mod.glob.keeps I.bk).lt;exact Nat.lt_trans (by decide) h
theorem Mn {Q:Value->Shared->Prop} (hu:A.units+1<cLine) (I:Inv X pins σ H s) (g:DGet H a y (some v)) (ry:RelV y u) (h:∀ w' s',Inv X pins σ H s'->RelV v w'->Q w' s'):
    wpAny (model X.prog X.w) A (getItem (.ref a) u) Q E s:=by
  rcases g with ⟨kvs,k,e,ey,l⟩ | ⟨kvs,k,b,e,ey,eb,l⟩
  · subst ey;obtain ⟨z,hd,vs,rel,dd⟩:=N8 I.hok e;obtain ⟨w',hw,rw'⟩:=RelO.some_of (v:=v) (o:=valueAt vs k) (by rw [l];exact rel.val k);exact wpAny_getItem_of (Oi ry) dd.mapOf hw (h w' _ (I.tok _) rw')
  · subst ey;cases (show u=Value.ref b from ry);obtain ⟨z,hd,xs,rel,dd⟩:=N5 I.hok e;obtain ⟨w',hw,rw'⟩:=RelO.some_of (v:=v) (o:=(atKey xs k).map (·.2)) (by rw [l];exact rel.val k);obtain ⟨p,hp,hp2⟩:=Option.map_eq_some_iff.mp hw;refine wpAny_getItem_heap (tupleKind_room_in1 hu) (Jo I.hok eb) dd hp ?_;rw [hp2];exact h w' _ (I.tok _) rw'
theorem JC {h':Heap} {t':Nat} {ob:HO} (I:Inv X pins σ H s) (mu:Mut (H a)) (hs:Heap.SameBut a s.heap h') (he:∃ q,h'.get? a=some q) (new:ObjOk X.prog X.w (upd H a ob) h' a ob):
    Inv X pins σ (upd H a ob) { s with heap:=h',toks:=t' }:=
  I.write (x:=a) (e:=a) mu (.inl rfl) (λ b q hb z=>(hs.2 b hb).trans z) he new
theorem RB {P:Program} {w:World} {H':Hp} {h':Heap} {kvs:List (Key × V)} {vs:List (Key × Value)} (z:kvs.length<=sizeLine) (hd:(a == sysModules)=false) (rel:KV kvs vs) (dd:h'.DictOf (Bj P w) a vs):
    ObjOk P w H' h' a (.dK kvs):=⟨z,hd,vs,rel,dd⟩
theorem ME {H':Hp} {Q:Unit->Shared->Prop} (hu:A.units+1<cLine) (I:Inv X pins σ H s) (g:DPut H a y v H') (ry:RelV y u) (rv:RelV v r) (h:∀ s',Inv X pins σ H' s'->Q () s'):
    wpAny (model X.prog X.w) A (setItem (.ref a) u r) Q E s:=by
  rcases g with ⟨kvs,k,e,ey,l,eH⟩ | ⟨kvs,k,b,e,ey,eb,l,eH⟩
  · subst ey eH;obtain ⟨z,hd,vs,rel,dd⟩:=Sd I.hok e;have hz:vs.length<=sizeLine:=by rw [<-rel.length];exact z
    have hl:(FJ kvs k v).length<=sizeLine:=by have:=Ee kvs k v;omega
    refine wpAny_setItem_pairs (hsz:=hz) (Oi ry) dd λ h' dd' hs=>h _ ?_;have he:∃ q,h'.get? a=some q:=let ⟨q,_,_,hq,_⟩:=dd';⟨q,hq⟩;exact JC I (by rw [e];exact True.intro) hs he (RB hl hd (rel.put k rv) dd')
  · subst ey eH;cases (show u=Value.ref b from ry);obtain ⟨z,hd,xs,rel,dd⟩:=PU I.hok e;have hz:xs.length<=sizeLine:=by rw [<-Paired.length rel];exact z
    have hl:(FJ kvs k v).length<=sizeLine:=by have:=Ee kvs k v;omega
    refine wpAny_setItem_heap (hsz:=hz) (tupleKind_room_in1 hu) (Jo I.hok eb) dd λ h' dd' hs=>h _ ?_;obtain ⟨q,es,ep,hq,h2,h3,h4,_,h5⟩:=dd';refine JC I (by rw [e];exact True.intro) hs ⟨q,hq⟩ ⟨hl,hd,_,(rel.put k eb rv).keeps λ c ys ec=> ?_,q,es,ep,hq,h2,h3,h4,h5⟩;rw [As (DP ec e (λ z=>nomatch z))];exact ec
end
section
variable {X:Cx} {pins:List (Addr × Obj)} {σ:St} {H:Hp} {s:Shared} {a:Addr} {kvs:List (Key × V)} {k:Key} {u:Value} {A:Around} {E:Value->Shared->Prop}
end
def TC (i:Expr):Prop:=∀ ov iv,subscripted i false ov iv=operate [ov,iv] (getItem ov iv)
theorem Pb {prog:Program} {w:World} {A:Around} {E:Value->Shared->Prop} {s:Shared} {env:Env} {value slice:Expr} {pos:Pos} {T id:String} {Q:Value->Shared->Prop}
    (hl:typeLookup (.type T) "__getitem__"=pure (some (.builtin id))) (hs:TC slice)
    (h:wpAny (model prog w) A (eval value env) (λ o s₁=>wpAny (model prog w) A (eval slice env) (λ i s₂=>s₂.TypeIs o T/\wpAny (model prog w) A (getItem o i) Q E s₂) E s₁) E s):
    wpAny (model prog w) A (eval (.Subscript value slice pos) env) Q E s:=by
  refine Subscript_ (wpAny_mono h (λ o s₁ h₁=>wpAny_mono h₁ (λ i s₂ h₂=> ?_) λ _ _ x=>x) λ _ _ x=>x);obtain ⟨hT,h₂⟩:=h₂;unfold subscriptTail;refine wpAny_bind ?_;rw [getitemInPython_of_ne hT.not_modules];refine wpAny_bind (wpAny_specialOf hT hl ?_);have fin:wpAny (model prog w) A (subscripted slice false o i) (λ r s₃=>wpAny (model prog w) A (letTemporaryGo value o r >>= λ _=>pure r) Q E s₃) E s₂:=by
    rw [hs o i];exact wpAny_operating (wpAny_mono h₂ (λ r s₃ h₃=>wpAny_bind (wpAny_letTemporaryGo (wpAny_pure h₃))) λ _ _ x=>x)
  first
    | exact wpAny_pure (wpAny_bind fin)
    | exact wpAny_bind (wpAny_pure (wpAny_bind fin))
    | exact wpAny_bind fin
theorem Kn {X:Cx} {pins:List (Addr × Obj)} {σ:St} {H:Hp} {s:Shared} {a:Addr} {y:V} {o:Option V} (I:Inv X pins σ H s) (g:DGet H a y o):s.TypeIs (.ref a) "dict":=by
  rcases g with ⟨kvs,k,e,_,_⟩ | ⟨kvs,k,b,e,_,_,_⟩
  · obtain ⟨_,_,vs,_,dd⟩:=N8 I.hok e;exact dd.typeIs
  · obtain ⟨_,_,xs,_,dd⟩:=N5 I.hok e;exact dd.typeIs
def PH (td ty:TE):TE:=λ σ H Q=>td σ H λ x H1=>ty σ H1 λ y H2=>∃ a v,x= .ref a/\DGet H2 a y (some v)/\Q v H2
def PB (td ty tv:TE):TS:=λ D σ H=>tv σ H λ v H1=>td σ H1 λ x H2=>ty σ H2 λ y H3=>∃ a H4,x= .ref a/\DPut H3 a y v H4/\D.nx σ H4
section
variable {X:Cx} {o i e value:Expr} {pos pos' tpos:Pos} {td ty tv:TE}
theorem GO (hu:X.A.units+1<cLine) (ho:PE X o td) (hi:PE X i ty) (hs:TC i):PE X (.Subscript o i pos) (PH td ty):=by
  intro pins s σ H Q I h;refine Pb PySem.F.slot_dict_getitem.lookup hs (thn (ho pins s σ H _ I h) λ u s1 ⟨x,H1,I1,rx,q1⟩=>thn (hi pins s1 σ H1 _ I1 q1) λ iv s2 ⟨y,H2,I2,ry,a,v,ex,g,q2⟩=> ?_);subst ex;obtain rfl:u=Value.ref a:=rx;exact ⟨Kn I2 g,Mn hu I2 g ry λ w' s3 I3 rw'=>⟨v,H2,I3,rw',q2⟩⟩
theorem Pi (hu:X.A.units+1<cLine) (ho:PE X o td) (hi:PE X i ty) (hv:PE X value tv) (hs:swapsWith value (some (.Subscript o i pos')) pos.line X.env=pure false):
    PS X (.Assign [.Subscript o i pos'] value pos) (PB td ty tv):=by
  intro pins s σ H D I h;refine wpAny_Assign_Subscript (thn (hv pins s σ H _ I h) λ r s1 ⟨v,H1,I1,rv,q1⟩=>thn (ho pins s1 σ H1 _ I1 q1) λ u s2 ⟨x,H2,I2,rx,q2⟩=>thn (hi pins s2 σ H2 _ I2 q2) λ iv s3 ⟨y,H3,I3,ry,a,H4,ex,g,q3⟩=> ?_) hs;subst ex;obtain rfl:u=Value.ref a:=rx;exact ME hu I3 g ry rv λ s4 I4=>⟨σ,H4,I4,q3⟩
end
theorem NA {P:Program} {w:World} {H:Hp} (h:Heap) (hb:sysModules<h.objs.size):ObjOk P w H (h.push { cls:= .type "dict",data:= .dict #[] }) h.objs.size (.dT []):=
  ⟨Nat.zero_le _,beq_eq_false_iff_ne.mpr (Ne.symm (Nat.ne_of_lt hb)),[], .nil,_, #[],0,Heap.get?_push_size _ rfl,⟨rfl,rfl,rfl⟩,rfl,rfl,List.nodup_nil⟩
section
variable {X:Cx} {pos:Pos}
end
def E9:List (TE × TE)->St->Hp->(List (V × V)->Hp->Prop)->Prop
  | [],_,H,Q=>Q [] H
  | (tk,tv)::r,σ,H,Q=>tk σ H λ x H1=>tv σ H1 λ y H2=>E9 r σ H2 λ ps H3=>Q ((x,y)::ps) H3
abbrev VV:List (V × V)->List (Value × Value)->Prop:=Paired λ p q=>RelV p.1 q.1/\RelV p.2 q.2
def PPs (X:Cx) (pos:Pos) (keys:List (Option Expr)) (values:List Expr) (trs:List (TE × TE)):Prop:=
  ∀ (pins:List (Addr × Obj)) (s:Shared) (σ:St) (H:Hp) (Q:List (V × V)->Hp->Prop),Inv X pins σ H s->E9 trs σ H Q->
    wpAny (model X.prog X.w) X.A (evalPairs (pairTrees keys values X.env pos)) (λ vs s'=>∃ ps H',Inv X pins σ H' s'/\VV ps vs/\Q ps H') X.xe s
theorem O5 {X:Cx} {pos:Pos}:PPs X pos [] [] []:=λ pins s σ H Q I h=>pairTrees_nil_walk ⟨[],H,I, .nil,h⟩
theorem N2 {X:Cx} {pos:Pos} {k v:Expr} {ks:List (Option Expr)} {vs:List Expr} {tk tv:TE} {trs:List (TE × TE)} (hk:PE X k tk) (hv:PE X v tv) (hr:PPs X pos ks vs trs):
    PPs X pos (some k::ks) (v::vs) ((tk,tv)::trs):=λ pins s σ H Q I h=>
  pairTrees_cons_walk (thn (hk pins s σ H _ I h) λ u s1 ⟨x,H1,I1,rx,q1⟩=>thn (hv pins s1 σ H1 _ I1 q1) λ w2 s2 ⟨y,H2,I2,ry,q2⟩=>
    thn (hr pins s2 σ H2 _ I2 q2) λ ws s3 ⟨ps,H3,I3,rel,q3⟩=>⟨(x,y)::ps,H3,I3, .cons ⟨rx,ry⟩ rel,q3⟩)
structure M1 (X:Cx) (o:Expr) (m:Str) (apos:Pos) (e:Expr) (cpos:Pos):Prop where
  base:attributeBase o m X.env (eval o X.env)=eval o X.env
  few:((backTo cpos (starEach [e] X.env)).all (λ x=> !x.1)&&(backToKw cpos (keywordEach [] X.env)).all (λ x=>x.1.isSome)
    && decide (([e]:List Expr).length+([]:List Keyword).length+(if ([]:List Keyword).isEmpty then 0 else 1)<30))=true
  line:(apos.endLine == cpos.line)=true
  trees:backTo cpos (starEach [e] X.env)=[(false,eval e X.env)]
structure M2 (X:Cx) (o:Expr) (m:Str) (apos:Pos) (e f:Expr) (cpos:Pos):Prop where
  base:attributeBase o m X.env (eval o X.env)=eval o X.env
  few:((backTo cpos (starEach [e,f] X.env)).all (λ x=> !x.1)&&(backToKw cpos (keywordEach [] X.env)).all (λ x=>x.1.isSome)
    && decide (([e,f]:List Expr).length+([]:List Keyword).length+(if ([]:List Keyword).isEmpty then 0 else 1)<30))=true
  line:(apos.endLine == cpos.line)=true
  trees:backTo cpos (starEach [e,f] X.env)=[(false,eval e X.env),(false,eval f X.env)]
section
variable {X:Cx} {pins:List (Addr × Obj)} {σ:St} {H:Hp} {s:Shared} {a:Addr} {y d:V} {u r:Value} {o:Option V} {A:Around} {E:Value->Shared->Prop}
end
section
variable {X:Cx} {o e f:Expr} {apos cpos:Pos} {td ty tx:TE}
end
section
variable {X:Cx} {pins:List (Addr × Obj)} {σ:St} {H:Hp} {s:Shared} {a:Addr} {kvs:List (Key × V)} {A:Around} {E:Value->Shared->Prop}
end
section
variable {X:Cx} {pins:List (Addr × Obj)} {σ:St} {H:Hp} {s:Shared} {a:Addr} {y:V} {u:Value} {A:Around} {E:Value->Shared->Prop}
end
section
variable {P:Program} {w:World} {K:PySem.W.Frag} {mg:Str->Option Value} {base:Heap}
end
section
variable {X:Cx}
end
section
variable {κ:Type} [DecidableEq κ]
end
noncomputable def AG (cells:List (Str × Addr)):List (Str × NameKind)->List (Str × Addr)->List (Str × Addr)
  | [],acc=>acc
  | (n,k)::r,acc=>AG cells r (if k= .free then (match cells.lookup n with | some a=>(n,a)::acc | none=>acc) else acc)
theorem EI {env:Env}:∀ (names:List (Str × NameKind)) (acc:List (Str × Addr)),(∀ y∈names,y.2= .free->∃ c,env.cells.lookup y.1=some c)->
    (forIn names acc λ (x:Str × NameKind) (r:List (Str × Addr))=>
      (if (x.2 == NameKind.free)=true then (do let a <-cellOf env x.1;pure (ForInStep.yield ((x.1,a)::r))) else pure (ForInStep.yield r):Sem (ForInStep (List (Str × Addr)))))=(pure (AG env.cells names acc):Sem (List (Str × Addr)))
  | [],acc,_=>rfl
  | (n,k)::rest,acc,h=>by
    rw [List.forIn_cons];have ih:=λ acc'=>EI (env:=env) rest acc' λ y hy=>h y (List.mem_cons_of_mem _ hy);by_cases hk:k= .free
    · subst hk;obtain ⟨c,hc⟩:=h (n, .free) List.mem_cons_self rfl;have hc:env.cells.lookup n=some c:=hc;have e:cellOf env n=pure c:=by unfold cellOf;rw [hc]
      simp only [beq_self_eq_true,if_true,e,pure_bind,AG,hc];exact ih _
    · have hb:(k == NameKind.free)=false:=by simpa using hk
      simp only [hb,Bool.false_eq_true,if_false,pure_bind,AG,if_neg hk];exact ih _
theorem C0 {env:Env} {scope:Scope} (h:∀ y∈scope.names,y.2= .free->∃ c,env.cells.lookup y.1=some c):closureFor scope env=pure (AG env.cells scope.names []):=by
  have e:=EI (env:=env) scope.names [] h;unfold closureFor;simp only [bind_pure_comp,bind_pure,map_pure] at*;exact e
theorem Dd {cells:List (Str × Addr)}:∀ (names:List (Str × NameKind)) (acc:List (Str × Addr)),(∀ x c,acc.lookup x=some c->cells.lookup x=some c)->∀ x c,(AG cells names acc).lookup x=some c->cells.lookup x=some c
  | [],acc,h,x,c,e=>h x c e
  | (n,k)::r,acc,h,x,c,e=>by
    refine Dd r _ ?_ x c e;intro y d q;split at q
    · split at q
      · rename_i a ha
        rw [List.lookup_cons] at q;split at q
        · rename_i hy
          cases q;rw [eq_of_beq hy];exact ha
        · exact h y d q
      · exact h y d q
    · exact h y d q
theorem BX {cells:List (Str × Addr)}:∀ (names:List (Str × NameKind)) (acc:List (Str × Addr)) (x:Str),(((x,NameKind.free)∈names/\∃ c,cells.lookup x=some c)\/∃ c,acc.lookup x=some c)->∃ c,(AG cells names acc).lookup x=some c
  | [],acc,x,h=>by
    rcases h with ⟨h,_⟩ | h
    · cases h
    · exact h
  | (n,k)::r,acc,x,h=>by
    refine BX r _ x ?_;have up:(∃ c,acc.lookup x=some c)->∃ c,(if k= .free then (match cells.lookup n with | some a=>(n,a)::acc | none=>acc) else acc).lookup x=some c:=by
      rintro ⟨c,hc⟩;split
      · split
        · rename_i a ha
          rw [List.lookup_cons];split
          · exact ⟨_,rfl⟩
          · exact ⟨c,hc⟩
        · exact ⟨c,hc⟩
      · exact ⟨c,hc⟩
    rcases h with ⟨h,c,hc⟩ | h
    · rcases List.mem_cons.mp h with e | e
      · cases e;right;refine ⟨c,?_⟩;rw [if_pos rfl,hc,List.lookup_cons,beq_self_eq_true]
      · exact .inl ⟨e,c,hc⟩
    · exact .inr (up h)
theorem Ha (env:Env) (x:Str):∀ names:List (Str × NameKind),
    (names.map λ (n,k)=>if (k == NameKind.free&&env.scope.kind == .function&&env.kindOf n == some .cell) then (n,NameKind.cell) else (n,k)).lookup x=
      (names.lookup x).map λ k=>if (k == NameKind.free&&env.scope.kind == .function&&env.kindOf x == some .cell)=true then NameKind.cell else k
  | []=>rfl
  | (n,k)::r=>by
    have ih:=Ha env x r;show List.lookup x ((if (k == NameKind.free&&env.scope.kind == .function&&env.kindOf n == some .cell)=true then (n,NameKind.cell) else (n,k))::_)=_;cases hx:x == n with
    | true=>
      have e:x=n:=eq_of_beq hx;subst e;by_cases hc:(k == NameKind.free&&env.scope.kind == .function&&env.kindOf x == some .cell)=true
      · rw [if_pos hc,List.lookup_cons,List.lookup_cons,beq_self_eq_true];simp only [Option.map_some,if_pos hc]
      · rw [if_neg hc,List.lookup_cons,List.lookup_cons,beq_self_eq_true];simp only [Option.map_some,if_neg hc]
    | false=>
      have e:(List.lookup x ((n,k)::r))=List.lookup x r:=by rw [List.lookup_cons,hx]
      rw [e, <-ih];split <;> rw [List.lookup_cons,hx]
structure BlkScope (X:Cx) (scope:Scope) (own:List Str) (fr:List (Str × Nat)):Prop where
  kind:scope.kind= .function
  nocell:∀ y∈scope.names,y.2≠ .cell
  loc:∀ y∈scope.names,y.2= .local->scope.names.lookup y.1=some .local
  free:∀ y∈scope.names,y.2= .free->(X.env.scope.names.lookup y.1=some .cell\/X.env.scope.names.lookup y.1=some .free)
  fr:∀ p∈fr,X.N[p.2]?=some p.1/\(p.1,NameKind.free)∈scope.names
  only:∀ x,(x,NameKind.free)∈scope.names->scope.names.lookup x=some .free
noncomputable def Bh (X:Cx) (scope:Scope) (own:List Str) (fr:List (Str × Nat)) (C:Addr) (ex:List Addr) (s:Shared) (H:Hp):Cx where
  prog:=X.prog
  w:=X.w
  K:=X.K
  mg:=X.mg
  base:=X.base
  A:=X.A
  N:=own++fr.map (·.1)
  s₀:=s
  H₀:=H
  env:=compEnvC scope (AG X.env.cells scope.names []) C X.env
  outer:=X.stack
  stack:=X.stack
  ex:=ex
  fn:=λ _=>false
  calm:=X.calm
  pn:=[]
  xe:=λ _ _=>False
noncomputable def FK (own:List Str) (fr:List (Str × Nat)) (σ:St):St:=own.map (λ _=>none)++fr.map (λ p=>(σ[p.2]?).getD none)
section
variable {X:Cx} {pins:List (Addr × Obj)} {σ:St} {H:Hp} {s:Shared} {scope:Scope} {own:List Str} {fr:List (Str × Nat)} {fp:List Addr}
theorem BlkScope.cells (S:BlkScope X scope own fr) (ok:X.Ok):∀ y∈scope.names,y.2= .free->∃ c,X.env.cells.lookup y.1=some c:=λ y hy e=>ok.has y.1 (S.free y hy e)
theorem Inv.block {h':Heap} {t':Nat} {m:Str->Option Value} (I:Inv X pins σ H s) (S:BlkScope X scope own fr) (hf:∀ b∈fp,Ed X pins H b) (hlt:∀ b∈fp,b<s.heap.objs.size)
    (hns:h'.Ns s.heap.objs.size m) (k:∀ b o,s.heap.get? b=some o->h'.get? b=some o):
    Inv (Bh X scope own fr s.heap.objs.size fp s H) [] (FK own fr σ) H { s with heap:=h',toks:=t' }:=by
  have cs:∀ x c,(AG X.env.cells scope.names []).lookup x=some c->X.env.cells.lookup x=some c:=Dd _ _ (λ _ _ e=>by simp at e);have ck:∀ c v,s.heap.IsCell c v->h'.IsCell c v:=λ c v ⟨o,ho,hd⟩=>⟨o,k _ _ ho,hd⟩;have kf:∀ x,(x,NameKind.free)∈scope.names->∃ c,X.env.cells.lookup x=some c/\(AG X.env.cells scope.names []).lookup x=some c:=λ x hx=>by
    obtain ⟨c0,e0⟩:=S.cells I.ok (x, .free) hx rfl;obtain ⟨c,e⟩:=BX (cells:=X.env.cells) scope.names [] x (.inl ⟨hx,c0,e0⟩);exact ⟨c,cs _ _ e,e⟩
  have rel:∀ x,(compEnvC scope (AG X.env.cells scope.names []) s.heap.objs.size X.env).kindOf x=(scope.names.lookup x).map λ k=>if (k == NameKind.free&&X.env.scope.kind == .function&&X.env.kindOf x == some .cell)=true then NameKind.cell else k:=λ x=>Ha X.env x scope.names
  have nc:∀ x,scope.names.lookup x≠some .cell:=λ x e=>S.nocell _ (PySem.mem_of_lookup e) rfl;refine ⟨⟨I.ok.mod,S.kind,I.ok.glob,I.ok.blt,Nat.le_refl _,λ x y c e1 e2=>I.ok.inj x y c (cs _ _ e1) (cs _ _ e2),λ x hx=> ?_,λ x c e _=>(nomatch e),I.ok.hd,I.ok.frames, .inl rfl,
    λ b hb=>⟨Nat.ne_of_lt (hlt b hb),λ x c e=>(hf b hb).2.2.2.2.1 x c (cs _ _ e)⟩,I.bs,Nat.le_trans I.ok.bsz I.sz,λ b o e hb=> ?_,λ b hb z=>(List.mem_cons.mp (I.stkSub b z)).elim (hf b hb).2.1 (hf b hb).2.2.1,I.stack,I.stkFree⟩,
    rfl,I.bare,Un.kept k,⟨m,hns,λ i x v e1 e2 e3=> ?_⟩,λ x c e=> ?_,I.hok.fresh (Nat.le_refl _),λ x c e=>I.freeC x c (cs _ _ e),λ p hp=>absurd (show p∈([]:List (Addr × Obj)) from hp) (by simp),I.hok.kept k,?_⟩
  · have hx:(compEnvC scope (AG X.env.cells scope.names []) s.heap.objs.size X.env).kindOf x=some .cell\/(compEnvC scope (AG X.env.cells scope.names []) s.heap.objs.size X.env).kindOf x=some .free:=hx;rw [rel x] at hx;have q:scope.names.lookup x=some .free:=by
      cases e:scope.names.lookup x with
      | none=>rw [e] at hx;simp at hx
      | some kk=>
        rw [e] at hx;simp only [Option.map_some,Option.some.injEq] at hx;by_cases hk:kk= .free
        · rw [hk]
        · have hb:(kk == NameKind.free)=false:=by simpa using hk
          simp only [hb,Bool.false_and,Bool.false_eq_true,if_false] at hx;rcases hx with hx | hx
          · rw [hx] at e;exact absurd e (nc x)
          · exact absurd hx hk
    obtain ⟨c,_,e⟩:=kf x (PySem.mem_of_lookup q);exact ⟨c,e⟩
  · rcases (hf b hb).2.2.2.1 with z | z
    · exact I.ok.noex b o e z
    · exact absurd (Nat.lt_of_lt_of_le (Heap.lt_size (I.ok.bs b o e).1) z) (Nat.lt_irrefl _)
  · have e1:(own++fr.map (·.1))[i]?=some x:=e1;have e2:(FK own fr σ)[i]?=some (some v):=e2;unfold FK at e2;by_cases hi:i<own.length
    · rw [List.getElem?_append_left (by simpa using hi),List.getElem?_map] at e2;rw [List.getElem?_eq_getElem hi] at e2;simp at e2
    · rw [List.getElem?_append_right (by simpa using hi),List.getElem?_map,List.length_map] at e2;rw [List.getElem?_append_right (by omega),List.getElem?_map] at e1;cases ep:fr[i - own.length]? with
      | none=>rw [ep] at e1;simp at e1
      | some p=>
        rw [ep] at e1 e2;simp only [Option.map_some,Option.some.injEq] at e1 e2;subst e1;obtain ⟨h1,h2⟩:=S.fr p (List.mem_of_getElem? ep);have e4:σ[p.2]?=some (some v):=by
          cases q:σ[p.2]? with
          | none=>rw [q] at e2;simp at e2
          | some z=>rw [q] at e2;simp at e2;rw [e2]
        have kx:=S.free _ h2 rfl;obtain ⟨m0,hn0,hl0⟩:=I.loc;obtain ⟨u,r,l⟩:=hl0 p.2 p.1 v h1 e4 (kx.elim (λ z=> .inr (.inl z)) λ z=> .inr (.inr z));refine ⟨u,r,?_⟩;rcases l with ⟨z,_⟩ | ⟨_,c,hc,hcell⟩
        · have z:X.env.scope.names.lookup p.1=some .local:=z;rcases kx with y | y <;> (rw [y] at z;cases z)
        · obtain ⟨c',q1,q2⟩:=kf p.1 h2;rw [hc] at q1;cases q1;refine .inr ⟨?_,c,q2,ck _ _ hcell⟩;show (compEnvC scope (AG X.env.cells scope.names []) s.heap.objs.size X.env).kindOf p.1=some .cell\/(compEnvC scope (AG X.env.cells scope.names []) s.heap.objs.size X.env).kindOf p.1=some .free;have e3:(compEnvC scope (AG X.env.cells scope.names []) s.heap.objs.size X.env).kindOf p.1=some .local\/(compEnvC scope (AG X.env.cells scope.names []) s.heap.objs.size X.env).kindOf p.1=some .cell\/(compEnvC scope (AG X.env.cells scope.names []) s.heap.objs.size X.env).kindOf p.1=some .free:=e3;rcases e3 with e3 | e3
          · exfalso;rw [rel] at e3;cases e:scope.names.lookup p.1 with
            | none=>rw [e] at e3;cases e3
            | some kk=>
              rw [e] at e3;simp only [Option.map_some,Option.some.injEq] at e3;by_cases hk:kk= .free
              · subst hk;split at e3 <;> cases e3
              · have hb:(kk == NameKind.free)=false:=by simpa using hk
                simp only [hb,Bool.false_and,Bool.false_eq_true,if_false] at e3;subst e3;have:=S.only p.1 h2;rw [this] at e;cases e
          · exact e3
  · obtain ⟨v,z⟩:=I.cell x c (cs _ _ e);exact ⟨v,ck _ _ z⟩
  · unfold FK;show _=(own++fr.map (·.1)).length;simp
end
theorem Kh {prog:Program} {w:World} {A:Around} {R:Result->Shared->Prop} {s:Shared} {elt target iter:Expr} {ifs:List Expr} {scope:Scope} {pos:Pos} {it acc:Value} {env:Env} (I:Nat->Shared->Prop)
    (turn:∀ n s,I n s->wpAny (model prog w) A (pyNext it) (λ r s₁=>match r with
      | none=>R (.ok .next) s₁
      | some v=>wpAny (model prog w) A (letOwnedTupleGo target it v) (λ _ s₁'=>wpAny (model prog w) A (assign target env v) (λ _ s₂=>
          wpAny (model prog w) A (forIn ifs true λ c r=>if r=true then do let ok <-isTrue c env (eval c env);pure (ForInStep.yield ok) else pure (ForInStep.yield r)) (λ ok s₃=>
            if ok=true then wpAny (model prog w) A (eval elt env) (λ x s₄=>
              wpAny (model prog w) A (call (.builtin "list.append") [acc,x]) (λ _ s₅=>∃ m,m<n/\I m s₅) (λ _ _=>False) s₄) (λ _ _=>False) s₃
            else ∃ m,m<n/\I m s₃) (λ _ _=>False) s₂) (λ _ _=>False) s₁') (λ _ _=>False) s₁) (λ _ _=>False) s)
    (n:Nat) (h:I n s):codeAny (model prog w) A (.compLoop (.ListComp elt [⟨target,iter,ifs,0⟩] scope pos) 0 it acc env) R s:=by
  refine codeAny_loop rfl I (λ n s hI=> ?_) n h;show wpAny _ A ((compTurn (.ListComp elt [⟨target,iter,ifs,0⟩] scope pos) 0 it acc env).onRaise (λ x=>do noteFrame x env;theTreesLotGoes x)) _ _ s;refine wpAny_noted ?_;rw [compTurn_list];refine wpAny_bind (wpAny_standAt (wpAny_bind (wpAny_mono (turn n s hI) (λ r s₁ h₁=> ?_) λ _ _ f=>f.elim)));cases r with
  | none=>exact wpAny_pure h₁
  | some v=>
    refine wpAny_bind (wpAny_mono h₁ (λ _ s₁' h₁'=>wpAny_bind (wpAny_mono h₁' (λ _ s₂ h₂=>wpAny_bind (wpAny_mono h₂ (λ ok s₃ h₃=> ?_) λ _ _ f=>f.elim)) λ _ _ f=>f.elim)) λ _ _ f=>f.elim);cases ok with
    | false=>exact wpAny_pure ⟨rfl,h₃⟩
    | true=>
      exact wpAny_bind (wpAny_bind (wpAny_mono h₃ (λ x s₄ h₄=>wpAny_bind (wpAny_mono h₄ (λ _ s₅ h₅=>wpAny_pure (wpAny_pure ⟨rfl,h₅⟩)) λ _ _ f=>f.elim)) λ _ _ f=>f.elim))
section
variable {X:Cx}
def PTs (X:Cx) (ifs:List Expr) (tc:TT):Prop:=
  ∀ (pins:List (Addr × Obj)) (s:Shared) (σ:St) (H:Hp) (Q:Bool->Hp->Prop),Inv X pins σ H s->tc σ H Q->
    wpAny (model X.prog X.w) X.A (forIn ifs true λ c r=>if r=true then do let ok <-isTrue c X.env (eval c X.env);pure (ForInStep.yield ok) else pure (ForInStep.yield r)) (TP X pins σ Q) X.xe s
def Mr:TT:=λ _ H Q=>Q true H
theorem Ax:PTs X [] Mr:=λ _ _ _ H _ I h=>wpAny_tests_nil ⟨H,I,h⟩
theorem Pk {c:Expr} {tc:TT} (h:PT X c tc):PTs X [c] tc:=λ pins s σ H Q I q=>wpAny_tests_one (h pins s σ H Q I q)
def Kp (σ0 σ:St):Prop:=σ.length=σ0.length/\∀ (i:Nat) (v:V),σ0[i]?=some (some v)->σ[i]?=some (some v)
theorem Kp.refl (σ:St):Kp σ σ:=⟨rfl,λ _ _ h=>h⟩
theorem Kp.set {σ0 σ:St} {i:Nat} {v:V} (k:Kp σ0 σ) (h:σ0[i]?=some none):Kp σ0 (σ.set i (some v)):=by
  refine ⟨by rw [List.length_set];exact k.1,λ j u e=> ?_⟩;by_cases hj:i=j
  · subst hj;rw [h] at e;cases e
  · rw [List.getElem?_set_ne hj];exact k.2 j u e
def DW (J:It) (σ0:St) (g:TG) (tc:TT) (te:TE) (Q:VK) (H1:Hp) (D:Addr):Prop:=
  ∃ W:Nat->Nat->List V->Hp->Prop,(∃ m,W 0 m [] (upd H1 D (.lst [])))/\∀ i m ys H,W i m ys H->
    (J.stop i H/\Q (.ref D) H)\/(J.go i H/\∃ N:List V->Hp->Prop,(∀ ys' H',N ys' H'->∃ m',m'<m/\W (i+1) m' ys' H')/\∀ x H',J.yld i H x H'->g x σ0 H' λ σ2 H2=>Kp σ0 σ2/\tc σ2 H2 λ b H3=>
      if b=true then te σ2 H3 λ y H4=>H4 D=some (.lst ys)/\ys.length<sizeLine/\N (ys++[y]) (upd H4 D (.lst (ys++[y]))) else N ys H3)
def IU (wi:TI) (own:List Str) (fr:List (Str × Nat)) (g:TG) (tc:TT) (te:TE):TE:=λ σ H Q=>wi σ H λ J H1=>∀ D,H1 D=none->DW J (FK own fr σ) g tc te Q H1 D
theorem Ko {elt tg iter:Expr} {ifs:List Expr} {scope:Scope} {pos:Pos} {own:List Str} {fr:List (Str × Nat)} {g:TG} {tc:TT} {te:TE} (hc:X.calm=true) (S:BlkScope X scope own fr)
    (hg:∀ C ex s H,PG (Bh X scope own fr C ex s H) tg g) (ht:∀ C ex s H,PTs (Bh X scope own fr C ex s H) ifs tc) (he:∀ C ex s H,PE (Bh X scope own fr C ex s H) elt te)
    {pins:List (Addr × Obj)} {σ:St} {H:Hp} {s:Shared} {it:Addr} {fp:List Addr} {tn:Nat->Heap->Prop} {J:It} {E:Value->Shared->Prop}
    (I:Inv X pins σ H s) (T:Turn X.prog X.w X.K tg J fp it tn) (st:tn 0 s.heap) (hf:∀ b∈fp,Ed X pins H b) {Q:VK}
    (h:∀ D,H D=none->DW J (FK own fr σ) g tc te Q H D)
    {RR:Value->Addr->Result->Shared->Prop}
    (hR:∀ D C H' s',Inv X pins σ H' s'->(∃ m,s'.heap.Ns C m)->Ed X pins H' C->Q (.ref D) H'->RR (.ref D) C (.ok .next) s'):
    wpAny (model X.prog X.w) X.A (newList []) (λ acc s₃=>wpAny (model X.prog X.w) X.A (newFunctionEnv scope X.env.globals (AG X.env.cells scope.names []) [] X.env.qual none .none (some X.env)) (λ cenv s₄=>
      codeAny (model X.prog X.w) X.A (.compStart (.ListComp elt [⟨tg,iter,ifs,0⟩] scope pos) 0 (.ref it) acc { cenv with scope:=relabel scope X.env }) (RR acc cenv.locals) s₄) E s₃) E s:=by
  have hDn:H s.heap.objs.size=none:=I.fresh;obtain ⟨W,⟨m0,w0⟩,turn⟩:=h s.heap.objs.size hDn;have I3:Inv X pins σ (upd H s.heap.objs.size (.lst [])) { s with heap:=s.heap.push { cls:= .type "list",data:= .seq ([]:List Value).toArray },toks:=s.toks }:=I.lnew .nil (Nat.zero_le _);refine wpAny_newObj_type ?_;generalize hs3:({ s with heap:=s.heap.push { cls:= .type "list",data:= .seq ([]:List Value).toArray } }:Shared)=s3 at I3 ⊢;have I3:Inv X pins σ (upd H s.heap.objs.size (.lst [])) s3:=I3;have old3:∀ b o,s.heap.get? b=some o->s3.heap.get? b=some o:=λ b o e=>by rw [<-hs3];exact Heap.get?_push_of_some _ e
  have hobj:∀ b∈fp,∃ o,s.heap.get? b=some o/\∀ v,o.data≠ .cell v:=T.obj 0 _ st;have hne:∀ b∈fp,b≠s.heap.objs.size:=λ b hb=>by obtain ⟨o,e,_⟩:=hobj b hb;exact Nat.ne_of_lt (Heap.lt_size e)
  have hf3:∀ b∈fp,Ed X pins (upd H s.heap.objs.size (.lst [])) b:=λ b hb=>⟨by rw [As (hne b hb)];exact (hf b hb).1,(hf b hb).2⟩;have hlt3:∀ b∈fp,b<s3.heap.objs.size:=λ b hb=>by obtain ⟨o,e,_⟩:=hobj b hb;exact Heap.lt_size (old3 b o e)
  refine wpAny_newFunctionEnv S.nocell (by intro y hy;simp at hy) (λ h₁ hns hsb=> ?_) S.kind;have keep:∀ b o,s3.heap.get? b=some o->h₁.get? b=some o:=λ b o e=>hsb.extBut b o (Nat.ne_of_lt (Heap.lt_size e)) (Heap.get?_push_of_some _ e);have J0:=I3.block (t':=s3.toks+([]:List (Str × Value)).length) S hf3 hlt3 hns keep;have st3:tn 0 h₁:=T.keep 0 _ _ st λ b hb o e=>keep b o (old3 b o e);have loop:codeAny (model X.prog X.w) X.A (.compLoop (.ListComp elt [⟨tg,iter,ifs,0⟩] scope pos) 0 (.ref it) (.ref s.heap.objs.size) (compEnvC scope (AG X.env.cells scope.names []) s3.heap.objs.size X.env))
      (RR (.ref s.heap.objs.size) s3.heap.objs.size) { s3 with heap:=h₁,toks:=s3.toks+([]:List (Str × Value)).length }:=by
    have stat:∀ {H':Hp},(∀ b∈fp,H' b=none)->∀ b∈fp,Ed (Bh X scope own fr s3.heap.objs.size fp s3 (upd H s.heap.objs.size (.lst []))) [] H' b:=λ {H'} hn b hb=>
      ⟨hn b hb,Nat.ne_of_lt (hlt3 b hb),J0.ok.exfs b hb, .inl hb,(J0.ok.exf b hb).2,λ p hp=>absurd (show p∈([]:List (Addr × Obj)) from hp) (by simp)⟩
    refine Kh (λ n s'=>∃ i ys H',Inv (Bh X scope own fr s3.heap.objs.size fp s3 (upd H s.heap.objs.size (.lst []))) [] (FK own fr σ) H' s'/\tn i s'.heap/\(∀ b∈fp,H' b=none)/\W i n ys H') ?_ m0
      ⟨0,[],_,J0,st3,λ b hb=>(hf3 b hb).1,w0⟩
    rintro n s4 ⟨i,ys,H4,I4,st4,fr4,w4⟩;rcases turn i n ys H4 w4 with ⟨stop,q⟩ | ⟨go,N,hN,step⟩
    · refine thn (T.done (Bh X scope own fr s3.heap.objs.size fp s3 (upd H s.heap.objs.size (.lst []))) rfl rfl rfl hc i [] s4 _ H4 (λ _ _=>False) I4 (stat fr4) st4 stop) λ r s5 ⟨hr,I5⟩=> ?_;subst hr;obtain ⟨m,hn,_⟩:=id I5.loc;exact hR _ _ H4 s5 (I3.call' I5.os I5.base I5.hok I5.bare λ b hb=>⟨(hf3 b hb).2.2.2.1,(hf3 b hb).2.1,(hf3 b hb).2.2.2.2.1,(hf3 b hb).2.2.2.2.2⟩) ⟨m,hn⟩ (I3.fpOk (Nat.le_refl _) I5.free) q
    · refine thn (T.item (Bh X scope own fr s3.heap.objs.size fp s3 (upd H s.heap.objs.size (.lst []))) rfl rfl rfl hc i [] s4 _ H4 (λ _ _=>False) I4 (stat fr4) st4 go) λ r s5 ⟨u,hr,h5⟩=> ?_;subst hr;refine thn h5 λ _ s6 ⟨x,H6,I6,r6,y6,st6,fr6⟩=> ?_;have I6':=I6.pinned (stat fr6) (T.obj _ _ st6);refine thn (hg _ _ _ _ _ s6 _ H6 x u _ I6' r6 (step x H6 y6)) λ _ s7 ⟨σ7,H7,I7,kp,q7⟩=> ?_;refine thn (ht _ _ _ _ _ s7 σ7 H7 _ I7 q7) λ b s8 ⟨H8,I8,q8⟩=> ?_;have again:∀ {s9:Shared} {H9:Hp} {ys':List V},Inv (Bh X scope own fr s3.heap.objs.size fp s3 (upd H s.heap.objs.size (.lst []))) ([]++Hy fp s6.heap) σ7 H9 s9->N ys' H9->
          ∃ m,m<n/\∃ i ys H',Inv (Bh X scope own fr s3.heap.objs.size fp s3 (upd H s.heap.objs.size (.lst []))) [] (FK own fr σ) H' s9/\tn i s9.heap/\(∀ b∈fp,H' b=none)/\W i m ys H':=λ {s9 H9 ys'} I9 n9=>by
        obtain ⟨m',hm,w9⟩:=hN ys' H9 n9;refine ⟨m',hm,i+1,ys',H9,I9.unpinned.weak kp.1.symm kp.2,T.keep _ _ _ st6 λ b hb o e=>(I9.pin (b,o) (List.mem_append_right _ (List.mem_append_right _ (Dz hb e)))).1,λ b hb=> ?_,w9⟩;obtain ⟨o,e,d⟩:=T.obj _ _ st6 b hb;exact (I9.pin (b,o) (List.mem_append_right _ (List.mem_append_right _ (Dz hb e)))).2.1
      cases b with
      | false=>
        rw [if_neg Bool.false_ne_true] at q8 ⊢;exact again I8 q8
      | true=>
        rw [if_pos rfl] at q8 ⊢;refine thn (he _ _ _ _ _ s8 σ7 H8 _ I8 q8) λ xv s9 ⟨y,H9,I9,r9,hD,hl,n9⟩=> ?_;refine thn (AO _ s9 σ7 H9 (.ref s.heap.objs.size) [y] (.ref s.heap.objs.size) [xv] (λ _ H'=>H'=upd H9 s.heap.objs.size (.lst (ys++[y]))) I9 rfl (.cons r9 .nil) ⟨_,ys,y,rfl,rfl,hD,hl,rfl⟩) λ _ s10 ⟨_,H10,I10,_,q10⟩=> ?_;subst q10;exact again I10 n9
  exact codeAny_compStart_list loop (T.self _ 0 _ _ _ st3 loop)
theorem LY {elt tg iter:Expr} {ifs:List Expr} {scope:Scope} {pos:Pos} {own:List Str} {fr:List (Str × Nat)} {wi:TI} {g:TG} {tc:TT} {te:TE} (hc:X.calm=true) (S:BlkScope X scope own fr) (hi:PI X tg iter wi)
    (hg:∀ C ex s H,PG (Bh X scope own fr C ex s H) tg g) (ht:∀ C ex s H,PTs (Bh X scope own fr C ex s H) ifs tc) (he:∀ C ex s H,PE (Bh X scope own fr C ex s H) elt te)
    (hs:∀ x,foldedSetIterable iter X.env x=pure x:=by intro _;rfl):PE X (.ListComp elt [⟨tg,iter,ifs,0⟩] scope pos) (IU wi own fr g tc te):=by
  intro pins s σ H Q I h;rw [eval_ListComp];refine wpAny_comprehension_free (use:=none) rfl hs (C0 (S.cells I.ok)) S.kind S.loc (thn (hi pins s σ H _ I h) λ xv s₁ h₁=>thn h₁ λ itv s₂ h₂=> ?_);obtain ⟨it,fp,tn,J,H2,rfl,I2,T,st2,f2,h2⟩:=h₂;refine Ko (RR:=λ acc C=>compPost (model X.prog X.w) X.A X.xe none (EP X pins σ Q) acc C) hc S hg ht he I2 T st2 f2 h2 ?_;rintro D C H' s' I' ⟨m,hn⟩ f q;exact ⟨m,hn,λ h' sb=>⟨.ref D,H',I'.turned (t':=s'.toks) (it:=C) (λ b o hb e=>(sb.2 b hb).trans e) f.1 f.2.1 f.2.2.2.1 f.2.2.2.2.1 f.2.2.2.2.2,rfl,q⟩⟩
theorem OV {i:Nat} {x:Str} {px spos:Pos} {elt tg iter:Expr} {ifs:List Expr} {scope:Scope} {pos:Pos} {own:List Str} {fr:List (Str × Nat)} {wi:TI} {g:TG} {tc:TT} {te:TE} (hN:X.N.Nodup) (hix:X.N[i]?=some x) (hx:Loc X.env.scope x)
    (hc:X.calm=true) (S:BlkScope X scope own fr) (hi:PI X tg iter wi)
    (hg:∀ C ex s H,PG (Bh X scope own fr C ex s H) tg g) (ht:∀ C ex s H,PTs (Bh X scope own fr C ex s H) ifs tc) (he:∀ C ex s H,PE (Bh X scope own fr C ex s H) elt te)
    (hsw:swapsWith (.ListComp elt [⟨tg,iter,ifs,0⟩] scope pos) (some (.Name x px)) spos.line X.env=pure true:=by rfl)
    (hf:X.fn x=true\/X.env.scope.names.lookup x=some .local:=by first | exact .inl rfl | exact .inr rfl | assumption)
    (hs:∀ x,foldedSetIterable iter X.env x=pure x:=by intro _;rfl):PS X (.Assign [.Name x px] (.ListComp elt [⟨tg,iter,ifs,0⟩] scope pos) spos) (M9 (IU wi own fr g tc te) (AS i)):=by
  intro pins s σ H D I h;rw [exec_Assign_Name_used _ _ _ _ hsw];refine wpAny_bind (wpAny_standAt (wpAny_bind ?_));show wpAny _ X.A (do let _ <-comprehension (.ListComp elt [⟨tg,iter,ifs,0⟩] scope pos) scope X.env _ (newList []) false (eval iter X.env) (some (assign (.Name x px) X.env))) _ _ s;refine wpAny_bind (wpAny_mono (wpAny_comprehension_free (use:=some (assign (.Name x px) X.env)) (Q:=λ _ s'=>SP X pins D .next s') rfl hs (C0 (S.cells I.ok)) S.kind S.loc
    (thn (hi pins s σ H _ I h) λ xv s₁ h₁=>thn h₁ λ itv s₂ h₂=> ?_)) (λ _ s' hq=>wpAny_pure (wpAny_pure hq)) λ _ _ e=>e)
  obtain ⟨it,fp,tn,J,H2,rfl,I2,T,st2,f2,h2⟩:=h₂;refine Ko (Q:=λ x H1=>AS i x σ H1 D.nx) (RR:=λ acc C=>compPost (model X.prog X.w) X.A X.xe (some (assign (.Name x px) X.env)) (λ _ s'=>SP X pins D .next s') acc C) hc S hg ht he I2 T st2 f2 h2 ?_;rintro Dl C H' s' I' ⟨m,hn⟩ f q;obtain ⟨o,es,ep,ho,hd,r⟩:=hn;have pinC:∀ v,o.data≠ .cell v:=λ v z=>by rw [hd] at z;cases z
  have I'':Inv X (pins++[(C,o)]) σ H' s':=I'.pins_of λ p hp=>(List.mem_append.mp hp).elim (λ z=>I'.pin p (List.mem_append_right _ z)) λ z=>by
    have e:p=(C,o):=by simpa using z
    subst e;exact ⟨ho,f.1,f.2.1,f.2.2.1,pinC⟩
  show wpAny _ X.A (assign (.Name x px) X.env (.ref Dl)) _ _ s';refine wpAny_assign_Name (FB I'' hN hix hx (v:= .ref Dl) rfl (λ s2 I2=> ?_) hf);have pc:=(I2.pin (C,o) (List.mem_append_right _ (List.mem_append_right _ (by simp)))).1;refine ⟨m,⟨o,es,ep,pc,hd,r⟩,λ h' sb=>⟨_,H',?_,q⟩⟩;exact (I2.unpinned (pl:=[(C,o)])).turned (t':=s2.toks) (it:=C) (λ b o hb e=>(sb.2 b hb).trans e) f.1 f.2.1 f.2.2.2.1 f.2.2.2.2.1 f.2.2.2.2.2
end
noncomputable def Its (x:Str):It:=⟨λ i _=>i<x.cps.size,λ i H v H'=>H'=H/\∃ c,x.cps[i]?=some c/\v= .str ⟨#[c]⟩,λ i _=>x.cps.size<=i⟩
theorem Gg {h:Heap} {it:Addr} {T:String} {x:Str} {t:Tok} {i:Nat} (st:h.IsStrIter it T x t i):∃ o,h.get? it=some o/\o.cls= .type T/\o.data= .fields #[.str x t, .int (i:Int) 0]:=st
theorem Nc {P:Program} {w:World} {K:PySem.W.Frag} {tg:Expr} (x:Str) (t:Tok) (it:Addr) (T:String) (hT:T="str_ascii_iterator"\/T="str_iterator"):Turn P w K tg (Its x) [it] it (λ i h=>h.IsStrIter it T x t i) where
  mem:=by simp
  obj:=λ i h st b hb=>by
    have e:b=it:=by simpa using hb
    subst e;obtain ⟨o,e,c,d⟩:=Gg st;exact ⟨o,e,λ v z=>by rw [d] at z;cases z⟩
  keep:=λ i h h' st k=>let ⟨o,ho,r⟩:=st;⟨o,k it (by simp) o ho,r⟩
  item:=by
    intro X hP hw hK hc i pins s σ H E I hf st hg;subst hP hw hK;have hg:i<x.cps.size:=hg;obtain ⟨f0,f1,f2,f3,f4,f5⟩:=hf it (by simp);have hx:x.cps[i]?=some x.cps[i]:=by simp [hg]
    have fin:∀ h',h'.IsStrIter it T x t (i+1)->Heap.SameBut it s.heap h'->∃ u,some (Value.str ⟨#[x.cps[i]]⟩ s.toks)=some u/\
        wpAny (model X.prog X.w) X.A (letOwnedTupleGo tg (.ref it) u) (λ _ s2=>∃ y H',Inv X pins σ H' s2/\RelV y u/\(Its x).yld i H y H'/\s2.heap.IsStrIter it T x t (i+1)/\∀ b∈[it],H' b=none) E { s with heap:=h',toks:=s.toks+1 }:=λ h' st' sb=>by
      have I1:Inv X pins σ H { s with heap:=h',toks:=s.toks+1 }:=I.turned (t':=s.toks+1) (λ b o hb e=>(sb.2 b hb).trans e) f0 f1 f3 f4 f5;obtain ⟨o,e,c,d⟩:=Gg st';refine ⟨_,rfl,J6 (s:={ s with heap:=h',toks:=s.toks+1 }) e c d ?_ ⟨.str ⟨#[x.cps[i]]⟩,H,I1,⟨_,rfl⟩,⟨rfl,_,hx,rfl⟩,st',λ b hb=>(hf b hb).1⟩⟩;rcases hT with rfl | rfl <;> decide
    rcases hT with rfl | rfl
    · exact wpAny_pyNext_ascii_item st hx fin
    · exact wpAny_pyNext_wide_item st hx fin
  done:=by
    intro X hP hw hK hc i pins s σ H E I hf st hg;subst hP hw hK;have hg:x.cps.size<=i:=hg;obtain ⟨f0,f1,f2,f3,f4,f5⟩:=hf it (by simp);rcases hT with rfl | rfl
    · exact wpAny_pyNext_ascii_end (I.ok.hd hc) st (by simp [hg]) λ h' eb=>⟨rfl,I.turned (t':=s.toks) (λ b o hb e=>eb b o hb e) f0 f1 f3 f4 f5⟩
    · exact wpAny_pyNext_wide_end (I.ok.hd hc) st (by simp [hg]) λ h' eb=>⟨rfl,I.turned (t':=s.toks) (λ b o hb e=>eb b o hb e) f0 f1 f3 f4 f5⟩
  self:=λ _ _ _ _ _ st h=>by
    rcases hT with rfl | rfl
    · exact wpAny_pyIter_striter_ascii st h
    · exact wpAny_pyIter_striter_wide st h
section
variable {X:Cx} {tg:Expr}
def TV (te:TE):TI:=λ σ H R=>te σ H λ x H1=>∃ z,x= .str z/\R (Its z) H1
theorem Qm {e:Expr} {te:TE} (he:PE X e te):PI X tg e (TV te):=by
  intro pins s σ H R I h;refine thn (he pins s σ H _ I h) λ v s1 ⟨x,H1,I1,r1,q1⟩=> ?_;obtain ⟨z,e,q⟩:=q1;subst e;obtain ⟨t,rfl⟩:=r1;have fin:∀ T,(T="str_ascii_iterator"\/T="str_iterator")->PIE X pins σ tg R (.ref s1.heap.objs.size) { s1 with heap:=s1.heap.push { cls:= .type T,data:= .fields #[.str z t, .int 0 0] } }:=λ T hT=>by
    refine ⟨s1.heap.objs.size,[s1.heap.objs.size],_,_,H1,rfl,I1.kept (t':=s1.toks) λ b o e=>Heap.get?_push_of_some _ e,Nc z t _ T hT,⟨_,Heap.get?_push_size _ rfl,rfl,rfl⟩,λ b hb=> ?_,q⟩;have e:b=s1.heap.objs.size:=by simpa using hb
    subst e;exact I1.fpOk (Nat.le_refl _) (I1.hok.fresh (Nat.le_refl _))
  cases ha:z.cps.all (· < 128)
  · exact wpAny_pyIter_wide ha (fin _ (.inr rfl))
  · exact wpAny_pyIter_ascii ha (fin _ (.inl rfl))
end
end L2
namespace MS
open PySem PySem.StrLaws Builtin Builtin.Str
def Bd (c:Nat):List Nat->List (List Nat)
  | []=>[[]]
  | d::r=>if d=c then []::Bd c r else
    match Bd c r with
    | []=>[[d]]
    | w::ws=>(d::w)::ws
def Bb (L:List Nat) (c a:Nat) (k:Nat):List Nat:=(List.range' a k).filter λ i=>decide (L[i]?=some c)
theorem subAt_one (x:Str) (c i:Nat):subAt x ⟨#[c]⟩ i=decide (x.cps.toList[i]?=some c):=by
  rw [subAt_eq];show ((x.cps.toList.drop i).take 1 == [c])=_;rw [Bool.eq_iff_iff,beq_iff_eq,decide_eq_true_iff];cases h:x.cps.toList[i]? with
  | none=>
    rw [List.drop_of_length_le (List.getElem?_eq_none_iff.mp h)];simp
  | some d=>
    obtain ⟨hi,e⟩:=List.getElem?_eq_some_iff.mp h;rw [List.drop_eq_getElem_cons hi];simp [e]
theorem Js (x:Str) (c limit:Nat):∀ (k a:Nat) (st:Array Nat × Nat),st.snd<=a->st.fst.size+k<=limit->a+k=x.length+1->
    (forIn (List.range' a k) st (occBody x ⟨#[c]⟩ x.length limit)).run.fst.toList=st.fst.toList++Bb x.cps.toList c a k
  | 0,a,st,_,_,_=>by simp [Bb]
  | k+1,a,st,h1,h2,h3=>by
    have hl:x.cps.toList.length=x.length:=by simp [Str.length]
    rw [List.range'_succ,List.forIn_cons];unfold Bb;rw [List.range'_succ,List.filter_cons];by_cases hc:x.cps.toList[a]?=some c
    · have ha:a<x.length:=by
        have:=(List.getElem?_eq_some_iff.mp hc).1;omega
      have cond:((st.fst.size<limit/\st.snd<=a)/\a+(⟨#[c]⟩:Str).length<=x.length)/\subAt x ⟨#[c]⟩ a=true:=by
        refine ⟨⟨⟨by omega,h1⟩,?_⟩,by rw [subAt_one];exact decide_eq_true hc⟩;show a+1<=x.length;omega
      have e:occBody x ⟨#[c]⟩ x.length limit a st=pure (ForInStep.yield (st.fst.push a,a+1)):=by unfold occBody;rw [if_pos cond];rfl
      rw [e];simp only [pure_bind];have ih:=Js x c limit k (a+1) (st.fst.push a,a+1) (Nat.le_refl _) (by simp;omega) (by omega);rw [if_pos (by simpa using hc)];refine ih.trans ?_;simp [Bb]
    · have cond:¬ (((st.fst.size<limit/\st.snd<=a)/\a+(⟨#[c]⟩:Str).length<=x.length)/\subAt x ⟨#[c]⟩ a=true):=by
        intro h;rw [subAt_one] at h;exact hc (of_decide_eq_true h.2)
      have e:occBody x ⟨#[c]⟩ x.length limit a st=pure (ForInStep.yield (st.fst,st.snd)):=by unfold occBody;rw [if_neg cond]
      rw [e];simp only [pure_bind];have ih:=Js x c limit k (a+1) (st.fst,st.snd) (by show st.snd<=a+1;omega) (by show st.fst.size+k<=limit;omega) (by omega);rw [if_neg (by simpa using hc)];exact ih.trans (by simp [Bb])
theorem Oy (x:Str) (c:Nat):occurrences x ⟨#[c]⟩ 0 x.length (x.length+1)=Bb x.cps.toList c 0 (x.length+1):=by
  rw [occ_eq];have:=Js x c (x.length+1) (x.length+1) 0 (#[],0) (Nat.le_refl _) (by simp) (by omega);simpa using this
theorem II (x:Str) (c:Nat):∀ (k a:Nat),a+k=x.length+1->a<=x.length->(partsFrom x 1 a (Bb x.cps.toList c a k)).map (λ s=>s.cps.toList)=Bd c (x.cps.toList.drop a)
  | 0,a,h,h2=>by omega
  | k+1,a,h,h2=>by
    have hl:x.cps.toList.length=x.length:=by simp [Str.length]
    by_cases ha:a=x.length
    · subst ha;have e:Bb x.cps.toList c x.length (k+1)=[]:=by
        unfold Bb;rw [List.filter_eq_nil_iff];intro i hi;have hi:=(List.mem_range'_1.mp hi).1;rw [List.getElem?_eq_none_iff.mpr (by omega)];simp
      rw [e,List.drop_of_length_le (by omega)];show [(strSub x x.length x.length).cps.toList]=[[]];rw [strSub_toList];simp
    · have hlt:a<x.cps.toList.length:=by omega
      have ih:=II x c k (a+1) (by omega) (by omega);have hd:x.cps.toList.drop a=x.cps.toList[a]::x.cps.toList.drop (a+1):=List.drop_eq_getElem_cons hlt;rw [hd];have hg:x.cps.toList[a]?=some x.cps.toList[a]:=List.getElem?_eq_getElem hlt;unfold Bb;rw [List.range'_succ,List.filter_cons];by_cases hc:x.cps.toList[a]=c
      · rw [if_pos (by rw [hg,hc];simp)];have e1:Bd c (x.cps.toList[a]::x.cps.toList.drop (a+1))=[]::Bd c (x.cps.toList.drop (a+1)):=by rw [Bd,if_pos hc]
        rw [e1, <-ih];show (strSub x a a).cps.toList::_=_;rw [strSub_toList];simp [Bb]
      · rw [if_neg (by rw [hg];simpa using hc)];have e1:Bd c (x.cps.toList[a]::x.cps.toList.drop (a+1))=match Bd c (x.cps.toList.drop (a+1)) with | []=>[[x.cps.toList[a]]] | w::ws=>(x.cps.toList[a]::w)::ws:=by rw [Bd,if_neg hc]
        rw [e1, <-ih];show (partsFrom x 1 a (Bb x.cps.toList c (a+1) k)).map _=_;have far:∀ i∈Bb x.cps.toList c (a+1) k,a+1<=i:=λ i hi=>(List.mem_range'_1.mp (List.mem_filter.mp hi).1).1;cases hp:Bb x.cps.toList c (a+1) k with
        | nil=>
          show [(strSub x a x.length).cps.toList]=[x.cps.toList[a]::(strSub x (a+1) x.length).cps.toList];rw [strSub_toList,strSub_toList,hd];have e2:x.length - a=(x.length - (a+1))+1:=by omega
          rw [e2,List.take_succ_cons]
        | cons i r=>
          rw [hp] at far;have:=far i List.mem_cons_self;show (strSub x a i).cps.toList::_=(x.cps.toList[a]::(strSub x (a+1) i).cps.toList)::_;rw [strSub_toList,strSub_toList,hd];have e2:i - a=(i - (a+1))+1:=by omega
          rw [e2,List.take_succ_cons]
theorem Mp (x:Str) (c:Nat) (hc:c<256) (hx:x.cps.toList≠[] ):(Txt.split x ⟨#[c]⟩).map (λ s=>s.cps.toList)=Bd c x.cps.toList:=by
  have hl:x.cps.toList.length=x.length:=by simp [Str.length]
  have run:=II x c (x.length+1) 0 (by omega) (Nat.zero_le _);rw [List.drop_zero] at run;unfold Txt.split;have k1:¬ ((decide (x.length<(⟨#[c]⟩:Str).length)||decide (Builtin.Str.strKind x<Builtin.Str.strKind ⟨#[c]⟩))=true):=by
    have e1:(⟨#[c]⟩:Str).length=1:=rfl;have e2:Builtin.Str.strKind ⟨#[c]⟩=1:=by unfold Builtin.Str.strKind;simp [hc]
    have e3:1<=Builtin.Str.strKind x:=by unfold Builtin.Str.strKind;split <;> (try split) <;> decide
    have e4:1<=x.length:=by
      have:=List.length_pos_iff.mpr hx;omega
    rw [e1,e2];simp;omega
  rw [if_neg k1,Oy];split
  · rename_i he
    have he:Bb x.cps.toList c 0 (x.length+1)=[]:=by simpa using he
    rw [he] at run;rw [<-run];show [x.cps.toList]=[(strSub x 0 x.length).cps.toList];rw [sub_whole]
  · rw [partsBetween_eq];exact run
theorem Gq (c:Nat):∀ w:List Nat,c∉w->Bd c w=[w]
  | [],_=>rfl
  | d::r,h=>by
    have h1:d≠c:=λ e=>h (by rw [e];exact List.mem_cons_self);rw [Bd,if_neg h1,Gq c r λ z=>h (List.mem_cons_of_mem _ z)]
theorem Hd (c:Nat):∀ (w l:List Nat),c∉w->Bd c (w++c::l)=w::Bd c l
  | [],l,_=>by
    show Bd c (c::l)=_;rw [Bd,if_pos rfl]
  | d::r,l,h=>by
    have h1:d≠c:=λ e=>h (by rw [e];exact List.mem_cons_self);show Bd c (d::(r++c::l))=_;rw [Bd,if_neg h1,Hd c r l λ z=>h (List.mem_cons_of_mem _ z)]
theorem Gj (c:Nat):∀ ws:List Str,ws≠[]->(∀ w∈ws,c∉w.cps.toList)->Bd c (Str.join ⟨#[c]⟩ ws).cps.toList=ws.map (λ s=>s.cps.toList)
  | [],h,_=>absurd rfl h
  | [w],_,h=>Gq c _ (h w List.mem_cons_self)
  | w::v::r,_,h=>by
    have ih:=Gj c (v::r) (by simp) λ y hy=>h y (List.mem_cons_of_mem _ hy);have e:(Str.join ⟨#[c]⟩ (w::v::r)).cps.toList=w.cps.toList++c::(Str.join ⟨#[c]⟩ (v::r)).cps.toList:=by
      show (w++⟨#[c]⟩++Str.join ⟨#[c]⟩ (v::r)).cps.toList=_;simp [Str.cps_append]
    rw [e,Hd c _ _ (h w List.mem_cons_self),ih];rfl
theorem toList_inj {a b:List Str} (h:a.map (λ s=>s.cps.toList)=b.map (λ s=>s.cps.toList)):a=b:=by
  have inj:∀ x y:Str,x.cps.toList=y.cps.toList->x=y:=λ x y e=>Str.ext' (Array.toList_inj.mp e)
  induction a generalizing b with
  | nil=>cases b with
    | nil=>rfl
    | cons _ _=>simp at h
  | cons x a ih=>cases b with
    | nil=>simp at h
    | cons y b=>
      simp only [List.map_cons,List.cons.injEq] at h;rw [inj x y h.1,ih h.2]
theorem split_join (c:Nat) (hc:c<256) (ws:List Str) (h1:ws≠[]) (h2:∀ w∈ws,c∉w.cps.toList) (h3:(Str.join ⟨#[c]⟩ ws).cps.toList≠[]):Txt.split (Txt.join ⟨#[c]⟩ ws) ⟨#[c]⟩=ws:=by
  have e:Txt.join ⟨#[c]⟩ ws=Str.join ⟨#[c]⟩ ws:=glued_eq_join _ _;rw [e];exact toList_inj ((Mp _ c hc h3).trans (Gj c ws h1 h2))
end MS
namespace MN
open PySem PySem.StrLaws PySem.NumText Builtin Builtin.Str
def isDig (c:Nat):Bool:=decide (48<=c)&&decide (c<=57)
def numOf (cs:List Nat):Option Nat:=if (decide (1<=cs.length)&&decide (cs.length<=3)&&cs.all isDig&& !(decide (1<cs.length)&&cs.head? == some 48))=true then some (digitsVal cs) else none
theorem MR:∀ m,m<1000->numOf ((Nat.toDigits 10 m).map Char.toNat)=some m:=by decide +kernel
theorem Oa {i:Int} (h0:0<=i) (h1:i<1000):numOf (Str.ofString (toString i)).cps.toList=some i.toNat:=by
  obtain ⟨m,rfl⟩:=Int.eq_ofNat_of_zero_le h0;rw [PySem.W.KIN.signs_num];exact MR m (by omega)
theorem num_len {i:Int} (h0:0<=i) (h1:i<1000):(Str.ofString (toString i)).length<=3:=by
  have h:=Oa h0 h1;unfold numOf at h;split at h
  · rename_i hc
    simp only [Bool.and_eq_true,decide_eq_true_iff] at hc;have:=hc.1.1.2;simpa [Str.length] using this
  · cases h
theorem in_one (x:Str) (c:Nat):(!(occurrences x ⟨#[c]⟩ 0 x.length 1).isEmpty)=decide (c∈x.cps.toList):=by
  rw [Bool.eq_iff_iff,decide_eq_true_iff,found_iff,List.mem_iff_getElem?];constructor
  · rintro ⟨i,h⟩;exact ⟨i,(StrLaws.subAt_one x c i).mp h⟩
  · rintro ⟨i,h⟩;exact ⟨i,(StrLaws.subAt_one x c i).mpr h⟩
theorem fig_mem (c:Nat):decide (c∈(Str.ofString "0123456789").cps.toList)=isDig c:=by
  have e:(Str.ofString "0123456789").cps.toList=[48,49,50,51,52,53,54,55,56,57]:=by decide +kernel
  rw [e];unfold isDig;rw [Bool.eq_iff_iff];simp;omega
end MN
namespace L2
open PySem PySem.Spec PyProof.Rows
section
variable {X:Cx}
def UP:V->Option Int->Option Int->Hp->VK->Prop:=λ x lo hi H Q=>∃ z,x= .str z/\z.length<=sizeLine/\Q (.str (Txt.slice z lo hi)) H
theorem Qd:SlR X UP:=by
  intro pins s σ H x v vl vu lo hi sl Q I rx hs pl pu h;obtain ⟨z,rfl,hz,q⟩:=h;obtain ⟨t,rfl⟩:=rx;refine ⟨"str",_,F.slot_str_getitem.lookup,typeIs_str _ _ _,?_⟩;have fin:∀ t' k,EP X pins σ Q (.str (Txt.slice z lo hi) t') { s with toks:=k }:=λ t' k=>⟨.str _,H,I.tok k,⟨t',rfl⟩,q⟩;obtain ⟨o,ho,hc,hd⟩:=hs;cases pl with
  | none=>
    cases pu with
    | none=>exact wpAny_getItem_str_slice (l:=none) (u:=none) (st:=none) ⟨o,ho,hc,hd⟩ rfl (post_val_or_str ⟨Nat.le_trans (Txt.slice_le z _ _) hz,fin⟩)
    | int j uj=>exact wpAny_getItem_str_slice (l:=none) (u:=some (j,uj)) (st:=none) ⟨o,ho,hc,hd⟩ rfl (post_val_or_str ⟨Nat.le_trans (Txt.slice_le z _ _) hz,fin⟩)
  | int i ui=>
    cases pu with
    | none=>exact wpAny_getItem_str_slice (l:=some (i,ui)) (u:=none) (st:=none) ⟨o,ho,hc,hd⟩ rfl (post_val_or_str ⟨Nat.le_trans (Txt.slice_le z _ _) hz,fin⟩)
    | int j uj=>exact wpAny_getItem_str_slice (l:=some (i,ui)) (u:=some (j,uj)) (st:=none) ⟨o,ho,hc,hd⟩ rfl (post_val_or_str ⟨Nat.le_trans (Txt.slice_le z _ _) hz,fin⟩)
theorem HP:MtM X "str.startswith" (λ x vs H Q=>∃ z y,x= .str z/\vs=[.str y]/\Q (.bl (Txt.startswith z y)) H):=by
  intro pins s σ H x vs v us Q I rx rv h;obtain ⟨z,y,rfl,rfl,q⟩:=h;obtain ⟨t,rfl⟩:=rx;obtain ⟨u,rfl,ru⟩:=rv.one;obtain ⟨u',rfl⟩:=ru;exact SC.startswith ⟨.bl _,H,I,rfl,q⟩
theorem Ej:MtM X "str.endswith" (λ x vs H Q=>∃ z y,x= .str z/\vs=[.str y]/\Q (.bl (Txt.endswith z y)) H):=by
  intro pins s σ H x vs v us Q I rx rv h;obtain ⟨z,y,rfl,rfl,q⟩:=h;obtain ⟨t,rfl⟩:=rx;obtain ⟨u,rfl,ru⟩:=rv.one;obtain ⟨u',rfl⟩:=ru;exact SC.endswith ⟨.bl _,H,I,rfl,q⟩
theorem Iz:∀ {l:List (Str × Tok)},Vals ((l.map (·.1)).map V.str) (strValues l)
  | []=> .nil
  | _::l=> .cons ⟨_,rfl⟩ (Iz (l:=l))
theorem G9:∀ {ys:List Str} {us:List Value},Vals (ys.map V.str) us->StrsAre us ys
  | [],us,r=>by rw [List.map_nil] at r;cases r;exact .nil
  | y::ys,us,r=>by
    rw [List.map_cons] at r;cases r with
    | cons r1 r2=>
      obtain ⟨t,e⟩:=r1;subst e;exact .cons y t (G9 r2)
open Builtin.Str in
theorem NL:MtM X "str.split" (λ x vs H Q=>∃ z y,x= .str z/\vs=[.str y]/\(y.length == 0)=false/\z.length+2<=sizeLine/\∀ p,H p=none->Q (.ref p) (upd H p (.lst ((Txt.split z y).map V.str)))):=by
  intro pins s σ H x vs v us Q I rx rv h;obtain ⟨z,y,rfl,rfl,hy,hz,q⟩:=h;obtain ⟨t,rfl⟩:=rx;obtain ⟨u',rfl,ru⟩:=rv.one;obtain ⟨u,rfl⟩:=ru;have hn:(partsBetween z (occurrences z y 0 z.length (z.length+1)) y.length).length<=sizeLine:=by
    have e1:=StrLaws.occ_length_le z y 0 z.length (z.length+1);rw [length_partsBetween];omega
  have fin:∀ (l:List (Str × Tok)) (k:Nat),l.map (·.1)=Txt.split z y->l.length<=sizeLine->
      EP X pins σ Q (.ref s.heap.objs.size) { s with heap:=s.heap.push { cls:= .type "list",data:= .seq (strValues l).toArray },toks:=k }:=λ l k e hl=>
    ⟨.ref _,_,I.lnew (t':=k) (ys:=(Txt.split z y).map V.str) (its:=strValues l) (by rw [<-e];exact Iz) (by rw [<-e];simpa using hl),rfl,q _ I.fresh⟩
  cases h1:(decide (z.length<y.length)||decide (strKind z<strKind y))
  · cases hf:(occurrences z y 0 z.length (z.length+1)).isEmpty
    · refine call_meets F.slot_str_split (typeIs_str _ _ _) F.entry_str_split (F.args_str_split_2 _ _) (meets_str_split_sep z y t u h1 hy hf (by omega) hn) ?_;show wants _ _ _ { s with toks:=_,heap:=s.heap.push { cls:= .type "list",data:= .seq (strsFrom s.toks (partsBetween z (occurrences z y 0 z.length (z.length+1)) y.length)).toArray } };rw [strsFrom_eq];exact fin (numbered s.toks _) _ ((numbered_texts _ _).trans ((if_neg (ne_true_of_eq_false h1)).trans (if_neg (ne_true_of_eq_false hf))).symm) (by have:=congrArg List.length (numbered_texts s.toks (partsBetween z (occurrences z y 0 z.length (z.length+1)) y.length));rw [List.length_map] at this;omega)
    · exact call_meets F.slot_str_split (typeIs_str _ _ _) F.entry_str_split (F.args_str_split_2 _ _) (meets_str_split_not_found z y t u h1 hy hf)
        (fin [(z,t)] s.toks ((if_neg (ne_true_of_eq_false h1)).trans (if_pos hf)).symm (by show 1<=sizeLine;decide))
  · exact call_meets F.slot_str_split (typeIs_str _ _ _) F.entry_str_split (F.args_str_split_2 _ _) (meets_str_split_cannot_occur z y t u h1)
      (fin [(z,t)] s.toks (if_pos h1).symm (by show 1<=sizeLine;decide))
theorem Ox:MtM X "str.join" (λ x vs H Q=>∃ (z:Str) (p:Addr) (ys:List Str),x= .str z/\vs=[.ref p]/\SqL X.K H p (ys.map V.str)/\(ys.map (·.length)).sum+ys.length*z.length<=16777216/\Q (.str (Txt.join z ys)) H):=by
  intro pins s σ H x vs v us Q I rx rv h;obtain ⟨z,p,ys,rfl,rfl,hq,hz,q⟩:=h;obtain ⟨t,rfl⟩:=rx;obtain ⟨u,rfl,ru⟩:=rv.one;cases ru;obtain ⟨its,r,pl,_⟩:=I.list hq;exact join_list pl.isList (by simpa using G9 r) hz λ t' k=>⟨.str _,H,I.tok k,⟨t',rfl⟩,q⟩
theorem Ig:BG X (.type "int") (λ xs H Q=>∃ z n,xs=[.str z]/\PySem.intText? z=some n/\z.length<=640/\Q (.int n) H):=by
  intro pins s σ H xs us Q I r h;obtain ⟨z,n,rfl,hn,hl,q⟩:=h;obtain ⟨u,rfl,rx⟩:=EJ r;obtain ⟨t,rfl⟩:=rx;exact PySem.W.KIN.call_text hn hl ⟨.int n,H,I.tok _,⟨_,rfl⟩,q⟩
theorem Gf:∀ {ns:List Int} {l:List (Int × Tok)},Vals (ns.map V.int) (l.map λ p=>Value.int p.1 p.2)->l.map (·.1)=ns
  | [],[],_=>rfl
  | n::ns,p::l,r=>by
    cases r with
    | cons r1 r2=>
      obtain ⟨t,e⟩:=r1;injection e with e1 e2;rw [List.map_cons,Gf r2,e1]
  | [],_::_,r=>by cases r
  | _::_,[],r=>by cases r
theorem NJ (hc:X.calm=true):BG X (.builtin "sum") (λ xs H Q=>∃ (p:Addr) (ns:List Int),xs=[.ref p]/\SqL X.K H p (ns.map V.int)/\Q (.int ns.sum) H):=by
  intro pins s σ H xs us Q I r h;obtain ⟨p,ns,rfl,hq,q⟩:=h;obtain ⟨u,rfl,rx⟩:=EJ r;cases rx;obtain ⟨its,rv,pl,_⟩:=I.list hq;obtain ⟨ps,e⟩:=(IntsAre.allInts (Ll rv)).items;have e':its=ps.toList.map λ p=>Value.int p.1 p.2:=by
    have:=congrArg Array.toList e;simpa [intItems] using this
  have hl:=pl.isList;rw [e] at hl;refine sum_intListG (I.ok.hd hc) hl λ h' tk t' hk=> ?_;have es:preSum (numAt ps) ps.size=ns.sum:=by
    rw [preSum_eq,List.take_of_length_le (by simp),Gf (ns:=ns) (l:=ps.toList) (by rw [<-e'];exact rv)]
  rw [es];exact ⟨.int ns.sum,H,I.kept hk,⟨t',rfl⟩,q⟩
theorem Mx (bs:List Bool):(List.range bs.length).all (λ i=>bs.getD i true)=bs.all id:=by
  rw [Bool.eq_iff_iff,List.all_eq_true,List.all_eq_true];constructor
  · intro h b hb;obtain ⟨i,hi,rfl⟩:=List.getElem_of_mem hb;have:=h i (by simpa using hi);rw [List.getD_eq_getElem?_getD,List.getElem?_eq_getElem hi] at this;exact this
  · intro h i hi;have hi:i<bs.length:=by simpa using hi
    rw [List.getD_eq_getElem?_getD,List.getElem?_eq_getElem hi];exact h _ (List.getElem_mem hi)
theorem Oh (hc:X.calm=true):BG X (.builtin "all") (λ xs H Q=>∃ (p:Addr) (bs:List Bool),xs=[.ref p]/\SqL X.K H p (bs.map V.bl)/\Q (.bl (bs.all id)) H):=by
  intro pins s σ H xs us Q I r h;obtain ⟨p,bs,rfl,hq,q⟩:=h;obtain ⟨u,rfl,rx⟩:=EJ r;cases rx;obtain ⟨its,rv,pl,_⟩:=I.list hq;have hl:=rv.length;rw [List.length_map] at hl;obtain ⟨o,ho,_⟩:=id pl.isList;have hne:p≠s.heap.objs.size:=Nat.ne_of_lt (Heap.lt_size ho);refine call_all_walk (wpAny_pyIter_list pl.isList ?_);refine ⟨s.heap.objs.size,_,_,_,_,_,λ i=>bs.getD i true,rfl,Walks.list (A:=X.A.in1) (I.ok.hd hc) _ p hne its.toArray,⟨⟨_,Heap.get?_push_size _ rfl,rfl,rfl⟩,pl.isList.at λ o e=>Heap.get?_push_of_some _ e⟩,?_,λ h' tk hk=> ?_⟩
  · intro i v s' Q' E' hv hQ';have hv:its[i]?=some v:=by simpa using hv
    have hi:i<bs.length:=by rw [hl];exact (List.getElem?_eq_some_iff.mp hv).1
    obtain ⟨u,hu,ru⟩:=rv.get (i:=i) (x:= .bl (bs.getD i true)) (by rw [List.getElem?_map,List.getD_eq_getElem?_getD,List.getElem?_eq_getElem hi];rfl);rw [hu] at hv;cases hv;cases ru;exact wpAny_truthy_bool hQ'
  · have e:its.toArray.size=bs.length:=by rw [List.size_toArray];exact hl.symm
    rw [e,Mx];exact ⟨.bl _,H,I.kept λ b o e=>hk b o (λ z=>by simp at z;exact absurd (Heap.lt_size e) (by rw [z];exact Nat.lt_irrefl _)) (Heap.get?_push_of_some _ e),rfl,q⟩
theorem KF:BG X (.builtin "isinstance") (λ xs H Q=>∃ x n t b,xs=[x, .ty n]/\TyOf X.K H x t/\PySem.W.kitOne X.K t (.type n)=some b/\Q (.bl b) H):=by
  intro pins s σ H xs us Q I r h;obtain ⟨x,n,t,b,rfl,ty,e,q⟩:=h;obtain ⟨u,c,rfl,rx,rc⟩:=PV r;cases rc;exact Me I rx ty e λ tk=>⟨.bl b,H,I.tok tk,rfl,q⟩
def IS (K:PySem.W.Frag):R2:=λ x y H Q=>∃ l b xs zs,x= .ref l/\y= .ref b/\SqL K H l xs/\SqL K H b zs/\xs.length+zs.length<=sizeLine/\∀ p,H p=none->Q (.ref p) (upd H p (.lst (xs++zs)))
theorem O9:OpR X (binaryOp .Add) (IS X.K):=by
  intro pins s σ H x y v u Q I rx ry h;obtain ⟨l,b,xs,zs,rfl,rfl,hH,hB,hz,q⟩:=h;cases rx;cases ry;obtain ⟨its,r,pl,_⟩:=I.list hH;obtain ⟨its2,r2,pl2,_⟩:=I.list hB;have h1:=r.length;have h2:=r2.length;obtain ⟨⟨cls,dd,data,sl⟩,n,ho,hc,hdd,hd⟩:=pl;obtain ⟨⟨cls2,dd2,data2,sl2⟩,n2,ho2,hc2,hdd2,hd2⟩:=pl2;simp only at hc hdd hd hc2 hdd2 hd2;subst hc hdd hd hc2 hdd2 hd2;refine concat_meets ⟨_,ho,rfl⟩ ⟨_,ho2,rfl⟩ noFill_list_add seq_list_add PySem.F.slot_list_add PySem.F.entry_list_add (PySem.F.args_list_add_2 _ _) (list_addW l b its.toArray its2.toArray n n2 none none sl sl2 (by rw [List.size_toArray,List.size_toArray];omega)) ⟨ho,ho2,?_⟩;have e:its.toArray++its2.toArray=(its++its2).toArray:=by simp
  rw [e];exact ⟨.ref _,_,I.lnew (t':=s.toks) (r.append r2) (by rw [List.length_append];omega),rfl,q _ I.fresh⟩
noncomputable def E6 (xs ys:List V):Bool:=xs.length == ys.length&&(List.range xs.length).all λ i=>eqV (xs.getD i .non) (ys.getD i .non)
theorem IN {xs:List V} (h:xs.all Bf=true) {i:Nat} (hi:i<xs.length):Bf (xs.getD i .non)=true:=by
  rw [List.getD_eq_getElem?_getD,List.getElem?_eq_getElem hi];exact (List.all_eq_true.mp h) _ (List.getElem_mem hi)
def JH (K:PySem.W.Frag) (neg:Bool):R2:=λ x y H Q=>∃ p q xs ys,x= .ref p/\y= .ref q/\SqL K H p xs/\SqL K H q ys/\xs.all Bf=true/\ys.all Bf=true/\Q (.bl (if neg then !E6 xs ys else E6 xs ys)) H
theorem Hl {A:Around} {s:Shared} {xs ys:List V} {its its2:List Value} (r:Vals xs its) (r2:Vals ys its2) (fx:xs.all Bf=true) (fy:ys.all Bf=true):
    ∀ j (h1:j<its.toArray.size) (h2:j<its2.toArray.size),SeqAt.EqAt A s its.toArray[j] its2.toArray[j] (eqV (xs.getD j .non) (ys.getD j .non)):=λ j h1 h2=>by
  have l1:=r.length;have l2:=r2.length;have h1':j<its.length:=by simpa using h1
  have h2':j<its2.length:=by simpa using h2
  have g1:xs[j]?=some (xs.getD j .non):=by rw [List.getD_eq_getElem?_getD,List.getElem?_eq_getElem (by omega)];rfl
  have g2:ys[j]?=some (ys.getD j .non):=by rw [List.getD_eq_getElem?_getD,List.getElem?_eq_getElem (by omega)];rfl
  obtain ⟨u,e1,ru⟩:=r.get g1;obtain ⟨u2,e2,ru2⟩:=r2.get g2;have q1:its.toArray[j]=u:=by rw [List.getElem?_eq_getElem h1'] at e1;simpa using Option.some.inj e1
  have q2:its2.toArray[j]=u2:=by rw [List.getElem?_eq_getElem h2'] at e2;simpa using Option.some.inj e2
  rw [q1,q2];exact Np ru ru2 (IN fx (by omega)) (IN fy (by omega))
theorem RD (hu:X.A.units<cLine):OpR X (compareOp .Eq) (JH X.K false):=by
  intro pins s σ H x y v u Q I rx ry h;obtain ⟨p,q,xs,ys,rfl,rfl,h1,h2,fx,fy,hq⟩:=h;cases rx;cases ry;obtain ⟨its,r,pl,_⟩:=I.list h1;obtain ⟨its2,r2,pl2,_⟩:=I.list h2;have l1:=r.length;have l2:=r2.length;by_cases hl:xs.length=ys.length
  · refine SeqAt.eq_listAt pl.isList pl2.isList (by simp;omega) hu (Hl r r2 fx fy) ⟨.bl _,H,I,rfl,?_⟩;have e:E6 xs ys=(List.range its.toArray.size).all λ i=>eqV (xs.getD i .non) (ys.getD i .non):=by
      unfold E6;rw [hl,beq_self_eq_true,Bool.true_and,List.size_toArray, <-l1,hl]
    rw [<-e];exact hq
  · refine SeqAt.eq_list_lengthsAt pl.isList pl2.isList (by simp;omega) hu ⟨.bl _,H,I,rfl,?_⟩;have e:E6 xs ys=false:=by unfold E6;rw [beq_eq_false_iff_ne.mpr hl,Bool.false_and]
    rw [<-e];exact hq
theorem QP (hu:X.A.units<cLine):OpR X (compareOp .NotEq) (JH X.K true):=by
  intro pins s σ H x y v u Q I rx ry h;obtain ⟨p,q,xs,ys,rfl,rfl,h1,h2,fx,fy,hq⟩:=h;cases rx;cases ry;obtain ⟨its,r,pl,_⟩:=I.list h1;obtain ⟨its2,r2,pl2,_⟩:=I.list h2;have l1:=r.length;have l2:=r2.length;by_cases hl:xs.length=ys.length
  · refine SeqAt.RcNeAt.lists pl.isList pl2.isList (by simp;omega) hu (Hl r r2 fx fy) _ _ _ _ ⟨.bl _,H,I,rfl,?_⟩;have e:E6 xs ys=(List.range its.toArray.size).all λ i=>eqV (xs.getD i .non) (ys.getD i .non):=by
      unfold E6;rw [hl,beq_self_eq_true,Bool.true_and,List.size_toArray, <-l1,hl]
    rw [<-e];exact hq
  · refine SeqAt.RcNeAt.lists_lengths pl.isList pl2.isList (by simp;omega) hu _ _ _ _ ⟨.bl _,H,I,rfl,?_⟩;have e:E6 xs ys=false:=by unfold E6;rw [beq_eq_false_iff_ne.mpr hl,Bool.false_and]
    rw [e] at hq;exact hq
theorem OK {α:Type} [DecidableEq α] (f:α->V) (hf:∀ a b,eqV (f a) (f b)=decide (a=b)) (as bs:List α):E6 (as.map f) (bs.map f)=decide (as=bs):=by
  unfold E6;rw [Bool.eq_iff_iff,Bool.and_eq_true,List.all_eq_true,decide_eq_true_iff,beq_iff_eq,List.length_map,List.length_map];constructor
  · rintro ⟨h1,h2⟩;refine List.ext_getElem h1 λ i g1 g2=> ?_;have:=h2 i (by simpa using g1);rw [List.getD_eq_getElem?_getD,List.getD_eq_getElem?_getD,List.getElem?_map,List.getElem?_map,List.getElem?_eq_getElem g1,List.getElem?_eq_getElem g2] at this;have:=(hf _ _).symm.trans this;exact of_decide_eq_true this
  · rintro rfl;refine ⟨rfl,λ i hi=> ?_⟩;have hi:i<as.length:=by simpa using hi
    rw [List.getD_eq_getElem?_getD,List.getElem?_map,List.getElem?_eq_getElem hi];show eqV (f as[i]) (f as[i])=true;rw [hf];exact decide_eq_true rfl
theorem Oc (as bs:List Int):E6 (as.map V.int) (bs.map V.int)=decide (as=bs):=OK V.int (λ a b=>by show (a == b)=_;rw [Bool.eq_iff_iff,beq_iff_eq,decide_eq_true_iff]) as bs
theorem Kt (as:List Int):(as.map V.int).all Bf=true:=by simp [Bf]
end
def CallF (P:Program) (w:World) (K:PySem.W.Frag) (mg:Str->Option Value) (base:Heap) (x:Str) (k:Nat) (ps:List Str) (sp:Sp):Prop:=
  ∃ f fd,mg x=some (.ref f)/\PySem.W.keepIn K (.ref f)=true/\FnOk P w K mg base CX0 k f fd ps sp/\Binds K fd ps []
section
variable {X:Cx} {x:Str} {k:Nat} {ps:List Str} {sp:Sp} {e:Expr} {es:List Expr} {t:TA} {p pos:Pos}
theorem Ad (h:CallF X.prog X.w X.K X.mg X.base x k ps sp) (hr:Room k X.A) (ha:PA X (e::es) t) (hg:Gl X x:=by rfl) (hdb:(x == ("__debug__":Str))=false:=by decide)
    (he:starEach (e::es) X.env=(false,eval e X.env)::starEach es X.env:=by rfl) (hpl:(backTo pos (starEach es X.env)).any (·.1)=false:=by rfl):
    PE X (.Call (.Name x p) (e::es) [] pos) (IX sp [] E0 t):=by
  obtain ⟨f,fd,hm,hk,F,hb⟩:=h;exact Pw F hr hg hm hk hb .nil LW ha hdb he hpl
end
structure DefAt (K:PySem.W.Frag) (mg:Str->Option Value) (x:Str) (st:Stmt) (ps:List Str) (f:Addr) (fd:FuncData):Prop where
  fn:Fun K x x st f fd
  at':mg x=some (.ref f)
  bi:Binds K fd ps []
theorem DefAt.call {P:Program} {w:World} {K:PySem.W.Frag} {mg:Str->Option Value} {base:Heap} {x:Str} {st:Stmt} {ps:List Str} {f:Addr} {fd:FuncData} {k:Nat} {sp:Sp} (d:DefAt K mg x st ps f fd)
    (F:FnOk P w K mg base CX0 k f fd ps sp):CallF P w K mg base x k ps sp:=⟨f,fd,d.at',d.fn.kp,F,d.bi⟩
noncomputable def Nr:V->Bool | .int _=>true | _=>false
noncomputable def PD:V->Bool | .bl _=>true | _=>false
def Ty (K:PySem.W.Frag) (H:Hp) (x:V):Prop:=∃ n,TyOf K H x (.type n)
noncomputable def Dq (n T:String):Option Bool:=if (Value.type n == Value.type T)=true then some true else if PySem.W.kitMeta T=true then (fastBuiltinMro n).map (·.contains (.type T)) else none
section
variable {K:PySem.W.Frag} {H:Hp} {x:V} {n:String}
theorem kb {n T:String} {b:Bool} (h:Dq n T=some b):PySem.W.kitOne K (.type n) (.type T)=some b:=h
theorem OC (h:TyOf K H x (.type n)):PySem.W.kitOne K (.type n) (.type "int")=some (Nr x||PD x):=by
  cases h <;> first
    | exact (show PySem.W.kitOne K _ _=some true from kb (by decide +kernel))
    | exact (show PySem.W.kitOne K _ _=some false from kb (by decide +kernel))
theorem NH (h:TyOf K H x (.type n)):PySem.W.kitOne K (.type n) (.type "bool")=some (PD x):=by
  cases h <;> first
    | exact (show PySem.W.kitOne K _ _=some true from kb (by decide +kernel))
    | exact (show PySem.W.kitOne K _ _=some false from kb (by decide +kernel))
end
section
variable {X:Cx}
def Own (mg:Str->Option Value) (names:List Str):Prop:=∀ x∈names,mg x=none
theorem Da:bootBuiltins "all"=some (.builtin "all"):=by decide +kernel
theorem Bt {x:Str} {T:String} {pos:Pos} (hg:Gl X x) (hm:X.mg x=none) (hv:bootBuiltins x=some (.type T)) (hn:x≠"__name__":=by decide) (hd:(x == ("__debug__":Str))=false:=by decide):PE X (.Name x pos) (tC (.ty T)):=
  O7 hg hm hv (show RelV (.ty T) (.type T) from rfl) hn hd
end
noncomputable def GI (N:List Str) (scope:Scope):List (Str × Nat):=scope.names.filterMap λ y=>if y.2= .free then (N.findIdx? λ n=>decide (n=y.1)).map λ i=>(y.1,i) else none
noncomputable def Fj (sc:Scope) (N:List Str) (scope:Scope) (own:List Str) (fr:List (Str × Nat)):Bool:=
  decide (scope.kind= .function)&&
  (scope.names.all λ y=>decide (y.2≠ .cell)&&(decide (y.2≠ .local)||decide (scope.names.lookup y.1=some .local))&&
    (decide (y.2≠ .free)||((decide (sc.names.lookup y.1=some .cell)||decide (sc.names.lookup y.1=some .free))&&decide (scope.names.lookup y.1=some .free))))&&
  (fr.all λ p=>decide (N[p.2]?=some p.1)&&decide ((p.1,NameKind.free)∈scope.names))&&
  (own.all λ x=>decide (scope.names.lookup x=some .local))&&decide ((own++fr.map (·.1)).Nodup)
section
variable {X:Cx} {scope:Scope} {own:List Str} {fr:List (Str × Nat)}
theorem BlkScope.of (h:Fj X.env.scope X.N scope own fr=true):BlkScope X scope own fr:=by
  unfold Fj at h;simp only [Bool.and_eq_true,List.all_eq_true,decide_eq_true_iff,Bool.or_eq_true] at h;obtain ⟨⟨⟨⟨h1,h2⟩,h3⟩,h4⟩,h5⟩:=h;exact ⟨h1,λ y hy=>(h2 y hy).1.1,λ y hy e=>(h2 y hy).1.2.resolve_left (λ z=>z e),λ y hy e=>((h2 y hy).2.resolve_left (λ z=>z e)).1,λ p hp=>h3 p hp,λ x hx=>((h2 _ hx).2.resolve_left (λ z=>z rfl)).2⟩
theorem Mw (h:Fj X.env.scope X.N scope own fr=true):(∀ x∈own,scope.names.lookup x=some .local)/\(own++fr.map (·.1)).Nodup:=by
  unfold Fj at h;simp only [Bool.and_eq_true,List.all_eq_true,decide_eq_true_iff,Bool.or_eq_true] at h;exact ⟨h.1.2,h.2⟩
theorem JN {i:Nat} {x:Str} {px:Pos} (h:Fj X.env.scope X.N scope own fr=true) (hi:own[i]?=some x) (C:Addr) (ex:List Addr) (s:Shared) (H:Hp):PG (Bh X scope own fr C ex s H) (.Name x px) (AS i):=by
  obtain ⟨h1,h2⟩:=Mw h;have hl:(relabel scope X.env).names.lookup x=some .local:=lookup_relabel_local (h1 x (List.mem_of_getElem? hi));have hlt:=(List.getElem?_eq_some_iff.mp hi).1;refine AK h2 ?_ (.inl hl) (.inr hl);show (own++fr.map (·.1))[i]?=some x;rw [List.getElem?_append_left hlt];exact hi
theorem AA {elt iter:Expr} {x:Str} {px:Pos} {ifs:List Expr} {pos:Pos} {wi:TI} {tc:TT} {te:TE} (hi:PI X (.Name x px) iter wi)
    (ht:∀ C ex s H,PTs (Bh X scope [x] (GI X.N scope) C ex s H) ifs tc) (he:∀ C ex s H,PE (Bh X scope [x] (GI X.N scope) C ex s H) elt te)
    (hb:Fj X.env.scope X.N scope [x] (GI X.N scope)=true:=by with_unfolding_all rfl) (hc:X.calm=true:=by rfl)
    (hs:∀ x,foldedSetIterable iter X.env x=pure x:=by intro _;rfl):PE X (.ListComp elt [⟨.Name x px,iter,ifs,0⟩] scope pos) (IU wi [x] (GI X.N scope) (AS 0) tc te):=
  LY hc (.of hb) hi (λ C ex s H=>JN hb rfl C ex s H) ht he hs
theorem Cu {i:Nat} {y x:Str} {py px spos:Pos} {elt iter:Expr} {ifs:List Expr} {pos:Pos} {wi:TI} {tc:TT} {te:TE} (hN:X.N.Nodup) (hix:X.N[i]?=some y) (hx:Loc X.env.scope y) (hi:PI X (.Name x px) iter wi)
    (ht:∀ C ex s H,PTs (Bh X scope [x] (GI X.N scope) C ex s H) ifs tc) (he:∀ C ex s H,PE (Bh X scope [x] (GI X.N scope) C ex s H) elt te)
    (hb:Fj X.env.scope X.N scope [x] (GI X.N scope)=true:=by with_unfolding_all rfl) (hc:X.calm=true:=by rfl)
    (hsw:swapsWith (.ListComp elt [⟨.Name x px,iter,ifs,0⟩] scope pos) (some (.Name y py)) spos.line X.env=pure true:=by rfl)
    (hf:X.fn y=true\/X.env.scope.names.lookup y=some .local:=by first | exact .inl rfl | exact .inr rfl | assumption)
    (hs:∀ x,foldedSetIterable iter X.env x=pure x:=by intro _;rfl):
    PS X (.Assign [.Name y py] (.ListComp elt [⟨.Name x px,iter,ifs,0⟩] scope pos) spos) (M9 (IU wi [x] (GI X.N scope) (AS 0) tc te) (AS i)):=
  OV hN hix hx hc (.of hb) hi (λ C ex s H=>JN hb rfl C ex s H) ht he hsw hf hs
theorem Rk {σ:L2.St} {H:Hp} {A B:Hp->Prop} (h:A H):Mr σ H (λ b H3=>if b=true then A H3 else B H3):=by
  show (if true=true then A H else B H);exact HU h
end
def N0 (K:PySem.W.Frag):List V->Hp->VK->Prop:=λ xs H Q=>∃ x n,xs=[x]/\Vy K x H n/\Q (.int n) H
def VX (K:PySem.W.Frag):List V->Hp->VK->Prop:=λ xs H Q=>∃ (p:Addr) (ns:List Int),xs=[.ref p]/\SqL K H p (ns.map V.int)/\Q (.int ns.sum) H
def WO (K:PySem.W.Frag):List V->Hp->VK->Prop:=λ xs H Q=>∃ (p:Addr) (bs:List Bool),xs=[.ref p]/\SqL K H p (bs.map V.bl)/\Q (.bl (bs.all id)) H
def P9 (K:PySem.W.Frag):List V->Hp->VK->Prop:=λ xs H Q=>∃ x n t b,xs=[x, .ty n]/\TyOf K H x t/\PySem.W.kitOne K t (.type n)=some b/\Q (.bl b) H
def GQ (K:PySem.W.Frag):List V->Hp->VK->Prop:=λ xs H Q=>∃ p ys,xs=[.ref p]/\(SqL K H p ys\/SqT K H p ys)/\∀ l,H l=none->Q (.ref l) (upd H l (.lst ys))
def Kq (K:PySem.W.Frag):List V->Hp->VK->Prop:=λ xs H Q=>∃ p ys,xs=[.ref p]/\((SqL K H p ys/\∀ l,H l=none->Q (.ref l) (upd H l (.tup ys)))\/(SqT K H p ys/\Q (.ref p) H))
def Om:List V->Hp->VK->Prop:=λ xs H Q=>∃ i:Int,xs=[.int i]/\i.natAbs.log2<1920/\Q (.str (toString i)) H
def SB (K:PySem.W.Frag):V->List V->Hp->VK->Prop:=λ x vs H Q=>∃ (z:Str) (p:Addr) (ys:List Str),x= .str z/\vs=[.ref p]/\SqL K H p (ys.map V.str)/\(ys.map (·.length)).sum+ys.length*z.length<=16777216/\Q (.str (Txt.join z ys)) H
def rSplit:V->List V->Hp->VK->Prop:=λ x vs H Q=>∃ z y,x= .str z/\vs=[.str y]/\(y.length == 0)=false/\z.length+2<=sizeLine/\∀ p,H p=none->Q (.ref p) (upd H p (.lst ((Txt.split z y).map V.str)))
section
variable {X:Cx} {K:PySem.W.Frag}
theorem AC (hK:X.K=K:=by rfl):BG X (.builtin "len") (N0 K):=by subst hK;exact NR
theorem Qa (hK:X.K=K:=by rfl) (hc:X.calm=true:=by rfl):BG X (.builtin "sum") (VX K):=by subst hK;exact NJ hc
theorem J9 (hK:X.K=K:=by rfl) (hc:X.calm=true:=by rfl):BG X (.builtin "all") (WO K):=by subst hK;exact Oh hc
theorem A8 (hK:X.K=K:=by rfl):BG X (.builtin "isinstance") (P9 K):=by subst hK;exact KF
theorem Er (hK:X.K=K:=by rfl):BG X (.type "list") (GQ K):=by subst hK;exact Jr
theorem CN (hK:X.K=K:=by rfl):BG X (.type "tuple") (Kq K):=by subst hK;exact Ij
theorem Hs:BG X (.type "str") Om:=JG
theorem Gc (hK:X.K=K:=by rfl):MtM X "str.join" (SB K):=by subst hK;exact Ox
theorem FM:MtM X "str.split" rSplit:=NL
theorem CI (hK:X.K=K:=by rfl):IxR X (QU K):=by subst hK;exact Ph
theorem Fi (hK:X.K=K:=by rfl):IxR X (Rn K):=by subst hK;exact Qe
theorem QN (hK:X.K=K:=by rfl):OpR X (compareOp .In) (rIn K false):=by subst hK;exact Mz
theorem Bw (hK:X.K=K:=by rfl):OpR X (binaryOp .Add) (IS K):=by subst hK;exact O9
theorem Gh (hu:X.A.units<cLine) (hK:X.K=K:=by rfl):OpR X (compareOp .Eq) (JH K false):=by subst hK;exact RD hu
theorem PN (hu:X.A.units<cLine) (hK:X.K=K:=by rfl):OpR X (compareOp .NotEq) (JH K true):=by subst hK;exact QP hu
theorem C7 (hK:X.K=K:=by rfl):SlR X (Qg K):=by subst hK;exact O2
theorem Bi {tg l:Expr} {tl:TE} (hl:PE X l tl) (hK:X.K=K:=by rfl):PI X tg l (Md K tl):=by subst hK;exact OT hl
theorem ID {tg l:Expr} {tl:TE} (hl:PE X l tl) (hK:X.K=K:=by rfl):PI X tg l (RC K tl):=by subst hK;exact Q1 hl
end
section
variable {X:Cx} {pins:List (Addr × Obj)} {σ:St} {H:Hp} {s:Shared} {h':Heap}
theorem Inv.turnedL {t':Nat} (ch:List Addr) (I:Inv X pins σ H s) (hf:∀ b∈ch,Ed X pins H b) (k:∀ b o,b∉ch->s.heap.get? b=some o->h'.get? b=some o):Inv X pins σ H { s with heap:=h',toks:=t' }:=by
  have nit:∀ b u,H b=some u->b∉ch:=λ b u e z=>by rw [(hf b z).1] at e;cases e
  refine I.step (g':=s.gens) (d':=s.drawn) (ch:=ch) (λ b hb=> ?_) (λ b o _ _ hc e _=>k b o hc e) (λ b o _ _ hc e _=>⟨o.slots,k b o hc e⟩) (λ _ _ _ _ n=>n)
    (λ b o hc e=>⟨o,k b o hc e⟩) (λ _ _ e=>e) (λ _ _ _ e=>e) (λ b ps e=>⟨#[],by rw [e];simp⟩) (λ m hm=> ?_) (λ b u e=> ?_) I.bare
  · obtain ⟨f0,f1,f2,f3,f4,f5⟩:=hf b hb;exact ⟨f3,f1,f4,f5⟩
  · obtain ⟨o,es,ep,ho,r⟩:=hm;exact ⟨o,es,ep,k _ o (λ z=>(hf _ z).2.1 rfl) ho,r⟩
  · refine (I.hok b u e).stay (λ c v hc q=>k c v ?_ q) (λ _ q=>q) λ _ _ q=>q;rcases hc with z | z
    · rw [z];exact nit b u e
    · exact nit c _ z
end
noncomputable def Ite (K:PySem.W.Frag) (a:Addr):It:=
  ⟨λ i H=>∃ xs x,SqL K H a xs/\xs[i]?=some x,λ i H v H'=>∃ p x,H p=none/\v= .ref p/\H'=upd H p (.tup [.int i,x])/\∀ xs,SqL K H a xs->xs[i]?=some x,λ i H=>∃ xs,SqL K H a xs/\xs.length<=i⟩
theorem Lh {X:Cx} {pins:List (Addr × Obj)} {H:Hp} {b p:Addr} {o:HO} (h:Ed X pins H b) (n:b≠p):Ed X pins (upd H p o) b:=⟨by rw [As n];exact h.1,h.2⟩
theorem Ms {P:Program} {w:World} {K:PySem.W.Frag} {elts:List Expr} {k:Nat} {pos:Pos} (a e it:Addr) (hne:e≠it):
    Turn P w K (.Tuple elts k pos) (Ite K a) [e,it] e (λ i h=>(∃ old,IsEnum h e it i old)/\h.IsListIter it a i) where
  mem:=by simp
  obj:=λ i h st b hb=>by
    obtain ⟨⟨old,he⟩,o,eo,c,d⟩:=st;rcases List.mem_cons.mp hb with z | z
    · subst z;exact ⟨_,he,λ v z=>by cases (show Data.fields _=Data.cell v from z)⟩
    · have z:b=it:=by simpa using z
      subst z;exact ⟨o,eo,λ v z=>by rw [d] at z;cases z⟩
  keep:=λ i h h' st kp=>by
    obtain ⟨⟨old,he⟩,hi⟩:=st;exact ⟨⟨old,kp e (by simp) _ he⟩,hi.at λ o z=>kp it (by simp) o z⟩
  item:=by
    intro X hP hw hK hc i pins s σ H E I hf st hg;subst hP hw hK;obtain ⟨xs,x,hq,hx⟩:=hg;obtain ⟨its,rv,p,hz⟩:=I.list hq;obtain ⟨u,hu,ru⟩:=rv.get hx;obtain ⟨⟨old,he⟩,hi⟩:=st;have hel:e<s.heap.objs.size:=Heap.lt_size he;have hil:it<s.heap.objs.size:=by obtain ⟨_,z,_⟩:=hi;exact Heap.lt_size z
    refine wpAny_pyNext_enum_item he hi p.isList (x:=u) (by simpa using hu) hne λ h' ho hi' hT hsz hk=> ?_;have I0:=I.laid (h':=s.heap.push { cls:= .type "tuple",data:= .seq #[.int i s.toks,u] }) (a:=s.heap.objs.size) (o:= .tup [.int i,x]) (t':=s.toks+1) (λ _ _ q=>Heap.get?_push_of_some _ q) (Nat.le_refl _)
      ⟨(by show 2<=sizeLine;decide),[.int i s.toks,u], .cons ⟨_,rfl⟩ (.cons ru .nil),⟨_,Heap.get?_push_size _ rfl,rfl,_,rfl⟩⟩
    have f0:∀ b∈[e,it],Ed X pins (upd H s.heap.objs.size (.tup [.int i,x])) b:=λ b hb=>Lh (hf b hb) (by
      rcases List.mem_cons.mp hb with z | z
      · rw [z];exact Nat.ne_of_lt hel
      · rw [show b=it by simpa using z];exact Nat.ne_of_lt hil)
    have I1:=Inv.turnedL (t':=s.toks+1) (h':=h') [e,it] I0 f0 (λ b o hb z=>by
      have hb1:b≠e:=λ q=>hb (by simp [q]);have hb2:b≠it:=λ q=>hb (by simp [q]);rcases Heap.get?_push_cases (show (s.heap.push { cls:= .type "tuple",data:= .seq #[.int i s.toks,u] }).get? b=some o from z) with ⟨q1,q2⟩ | q
      · rw [q1,q2];exact hT
      · exact hk b o hb1 hb2 q)
    refine ⟨.ref s.heap.objs.size,rfl,wpAny_letOwnedTupleGo_enum (s:={ s with heap:=h',toks:=s.toks+1 }) ho λ h2 he2 sb=> ?_⟩;refine ⟨.ref s.heap.objs.size,_,Inv.turnedL (t':=s.toks+1) (h':=h2) [e,it] I1 f0 (λ b o hb z=>(sb.2 b λ q=>hb (by simp [q])).trans z),rfl,⟨_,x,I.fresh,rfl,rfl,λ ys hy=>by rw [I.list_inj hy hq];exact hx⟩,⟨⟨u,by simpa using he2⟩,hi'.at λ o z=>(sb.2 it hne.symm).trans z⟩,λ b hb=>(f0 b hb).1⟩
  done:=by
    intro X hP hw hK hc i pins s σ H E I hf st hg;subst hP hw hK;obtain ⟨xs,hq,hx⟩:=hg;obtain ⟨its,rv,p,hz⟩:=I.list hq;obtain ⟨⟨old,he⟩,hi⟩:=st;have hl:=rv.length;exact wpAny_pyNext_enum_end (I.ok.hd hc) he hi p.isList (by simp;omega) λ h' eb=>⟨rfl,I.turnedL (t':=s.toks) [e,it] hf λ b o hb z=>eb b o (λ q=>hb (by simp [q])) z⟩
  self:=λ _ _ _ _ _ st h=>by
    obtain ⟨⟨old,he⟩,_⟩:=st;exact wpAny_pyIter_enum he h
section
variable {X:Cx} {elts:List Expr} {k:Nat} {tpos:Pos} {K:PySem.W.Frag}
def PX (K:PySem.W.Frag) (ta:TA):TI:=λ σ H R=>ta σ H λ vs H1=>∃ a,vs=[.ref a]/\(∃ xs,SqL K H1 a xs)/\R (Ite K a) H1
theorem Jb:bootBuiltins "enumerate"=some (.type "enumerate"):=by decide +kernel
theorem M5:bootBuiltins "zip"=some (.type "zip"):=by decide +kernel
theorem LU {l:Expr} {ta:TA} {p pos:Pos} (hg:Gl X "enumerate") (hm:X.mg "enumerate"=none) (ha:PA X [l] ta) (hK:X.K=K:=by rfl) (hs:starEach [l] X.env=[(false,eval l X.env)]:=by rfl):PI X (.Tuple elts k tpos) (.Call (.Name "enumerate" p) [l] [] pos) (PX K ta):=by
  subst hK;intro pins s σ H R I h;refine Call_ (Di I hg hm Jb (PyProof.Rows.callWith_type1 (thn (ha pos pins s σ H _ I h) λ us s1 ⟨vs,H1,I1,r1,q1⟩=> ?_) hs rfl));obtain ⟨a,e,⟨xs,hq⟩,q⟩:=q1;subst e;cases r1 with
  | cons r rr=>
    cases rr;cases r;obtain ⟨its,rv,pl,hz⟩:=I1.list hq;refine call_enumerate_list pl.isList λ h' he hi hsz hk=> ?_;refine wpAny_pyIter_enum he ?_;have I2:=I1.kept (t':=s1.toks) hk;refine ⟨s1.heap.objs.size+1,[s1.heap.objs.size+1,s1.heap.objs.size],_,_,H1,rfl,I2,Ms a _ _ (Nat.succ_ne_self _),⟨⟨_,he⟩,hi⟩,λ b hb=> ?_,q⟩;have hb':s1.heap.objs.size<=b:=by
      rcases List.mem_cons.mp hb with z | z
      · rw [z];exact Nat.le_succ _
      · have z:b=s1.heap.objs.size:=by simpa using z
        rw [z];exact Nat.le_refl _
    exact I1.fpOk hb' (I1.hok.fresh hb')
end
section
variable {X:Cx} {elts:List Expr} {k:Nat} {tpos:Pos} {K:PySem.W.Frag}
end
def BE (tp:Bool) (h:Heap) (it l:Addr) (i:Nat):Prop:=if tp=true then h.IsTupleIter it l i else h.IsListIter it l i
def BM (tp:Bool) (h:Heap) (l:Addr) (xs:Array Value):Prop:=if tp=true then h.IsTuple l xs else h.IsList l xs
theorem AE {tp:Bool} {h h':Heap} {it l:Addr} {i:Nat} (x:BE tp h it l i) (k:∀ o,h.get? it=some o->h'.get? it=some o):BE tp h' it l i:=by
  cases tp with
  | false=>obtain ⟨o,e,r⟩:=(show h.IsListIter it l i from x);exact (show h'.IsListIter it l i from ⟨o,k o e,r⟩)
  | true=>obtain ⟨o,e,r⟩:=(show h.IsTupleIter it l i from x);exact (show h'.IsTupleIter it l i from ⟨o,k o e,r⟩)
theorem Cy {tp:Bool} {h h':Heap} {l:Addr} {xs:Array Value} (x:BM tp h l xs) (k:∀ o,h.get? l=some o->h'.get? l=some o):BM tp h' l xs:=by
  cases tp with
  | false=>obtain ⟨o,e,r⟩:=(show h.IsList l xs from x);exact (show h'.IsList l xs from ⟨o,k o e,r⟩)
  | true=>obtain ⟨o,e,r⟩:=(show h.IsTuple l xs from x);exact (show h'.IsTuple l xs from ⟨o,k o e,r⟩)
theorem BD {tp:Bool} {h:Heap} {it l:Addr} {i:Nat} (x:BE tp h it l i):∃ o,h.get? it=some o/\o.data= .fields #[.ref l, .int i 0]:=by
  cases tp with
  | false=>obtain ⟨o,e,_,d⟩:=(show h.IsListIter it l i from x);exact ⟨o,e,d⟩
  | true=>obtain ⟨o,e,_,d⟩:=(show h.IsTupleIter it l i from x);exact ⟨o,e,d⟩
theorem EG {tp:Bool} {h:Heap} {l:Addr} {xs:Array Value} (x:BM tp h l xs):∃ o n,h.get? l=some o/\o.data= .seq xs n:=by
  cases tp with
  | false=>obtain ⟨o,e,_,n,d⟩:=(show h.IsList l xs from x);exact ⟨o,n,e,d⟩
  | true=>obtain ⟨o,e,_,n,d⟩:=(show h.IsTuple l xs from x);exact ⟨o,n,e,d⟩
section
variable {prog:Program} {w:World} {A:Around} {E:Value->Shared->Prop} {s:Shared}
theorem Ff {tp:Bool} {it l:Addr} {i:Nat} {xs:Array Value} {x:Value} {Q:Value->Shared->Prop} (ht:BE tp s.heap it l i) (hq:BM tp s.heap l xs) (hx:xs[i]?=some x)
    (k:∀ h',BE tp h' it l (i+1)->Heap.SameBut it s.heap h'->Q x { s with heap:=h' }):wpAny (model prog w) A (Builtin.SmallTypes.nextOf (.ref it)) Q E s:=by
  cases tp with
  | false=>exact wpAny_nextOf_list_item (show s.heap.IsListIter it l i from ht) (show s.heap.IsList l xs from hq) hx k
  | true=>
    have ht:s.heap.IsTupleIter it l i:=ht;obtain ⟨ob,eb,cb,db⟩:=id ht;obtain ⟨ol,el,_,nl,dl⟩:=(show s.heap.IsTuple l xs from hq);unfold Builtin.SmallTypes.nextOf;refine wpAny_bind (wpAny_callSpecial?_slot (name:=Str.ofString "__next__") ht.typeIs F.slot_tuple_iterator_next (wpAny_call_entry F.slot_tuple_iterator_next ht.typeIs F.entry_tuple_iterator_next ?_ (F.args_tuple_iterator_next_1 _)));show wpAny _ _ (field (.ref it) 0 >>= _) _ _ s;refine wpAny_bind (wpAny_field eb db (x:= .ref l) rfl ?_);show wpAny _ _ (if (Value.ref l == Value.none)=true then _ else _) _ _ s;rw [if_neg (show ¬ ((Value.ref l == Value.none)=true) from Bool.false_ne_true)];show wpAny _ _ (field (.ref it) 1 >>= _) _ _ s;refine wpAny_bind (wpAny_field eb db (x:= .int i 0) rfl ?_);show wpAny _ _ (seqItems? (.ref l) >>= _) _ _ s;refine wpAny_bind (wpAny_seqItems el dl ?_);simp only [Int.toNat_natCast,hx];refine wpAny_bind (wpAny_setField eb db (by simp) (wpAny_pure ⟨x,rfl,wpAny_pure (k _ ?_ (Heap.SameBut.update ..))⟩));exact (show Heap.IsTupleIter _ it l (i+1) from ⟨_,Heap.get?_update_self _ eb (Obj.isFreed_of_fields (Obj.data_mapFields db _)),(Obj.cls_mapFields ..).trans cb,by rw [Obj.data_mapFields db];simp [rawInt]⟩)
theorem GS {tp:Bool} {it l:Addr} {i:Nat} {xs:Array Value} {Q:Value->Shared->Prop} (hh:A.handled=none) (ht:BE tp s.heap it l i) (hq:BM tp s.heap l xs) (hx:xs[i]?=none)
    (k:∀ h' e,Heap.ExtBut it s.heap h'->(∃ o,h'.get? e=some o/\o.cls= .type "StopIteration")->E (.ref e) { s with heap:=h' }):wpAny (model prog w) A (Builtin.SmallTypes.nextOf (.ref it)) Q E s:=by
  cases tp with
  | false=>exact wpAny_nextOf_list_end hh (show s.heap.IsListIter it l i from ht) (show s.heap.IsList l xs from hq) hx k
  | true=>
    have ht:s.heap.IsTupleIter it l i:=ht;obtain ⟨ob,eb,cb,db⟩:=id ht;obtain ⟨ol,el,_,nl,dl⟩:=(show s.heap.IsTuple l xs from hq);unfold Builtin.SmallTypes.nextOf;refine wpAny_bind (wpAny_callSpecial?_slot (name:=Str.ofString "__next__") ht.typeIs F.slot_tuple_iterator_next (wpAny_call_entry F.slot_tuple_iterator_next ht.typeIs F.entry_tuple_iterator_next ?_ (F.args_tuple_iterator_next_1 _)));show wpAny _ _ (field (.ref it) 0 >>= _) _ _ s;refine wpAny_bind (wpAny_field eb db (x:= .ref l) rfl ?_);show wpAny _ _ (if (Value.ref l == Value.none)=true then _ else _) _ _ s;rw [if_neg (show ¬ ((Value.ref l == Value.none)=true) from Bool.false_ne_true)];show wpAny _ _ (field (.ref it) 1 >>= _) _ _ s;refine wpAny_bind (wpAny_field eb db (x:= .int i 0) rfl ?_);show wpAny _ _ (seqItems? (.ref l) >>= _) _ _ s;refine wpAny_bind (wpAny_seqItems el dl ?_);simp only [Int.toNat_natCast,hx];refine wpAny_bind (wpAny_rule (wpAny_bind (wpAny_setField eb db (by simp) ?_)));show wpAny _ _ (newExc (.type "StopIteration") [] >>= _) _ _ _;refine wpAny_bind ?_;simp only [newExc,newTuple];refine wpAny_bind (wpAny_newObj_type ?_ (by size_fits));refine wpAny_bind (m:=firstArgMember _ _) (wpAny_of_eq (a:=Value.none) (by first | rfl | (simp only [firstArgMember];rfl)) ?_);refine wpAny_newObj_type ?_ (by size_fits);simp only [raiseNew];refine wpAny_bind (wpAny_handled ?_)
    first | rw [show A.in1.handled=none from hh] | rw [hh]
    exact wpAny_bind (wpAny_pure (wpAny_throw (k _ _ (((Heap.SameBut.update ..).extBut.push _).push _) ⟨_,Heap.get?_push_size _ rfl,rfl⟩)))
end
section
variable {prog:Program} {w:World} {A:Around} {E:Value->Shared->Prop} {s:Shared}
structure ZipSt (t1 t2:Bool) (h:Heap) (z TI TO i1 i2 l1 l2:Addr) (k:Nat):Prop where
  hz:IsZip h z TI TO .none
  hTI:IsPair h TI (.ref i1) (.ref i2)
  hTO:∃ c d,IsPair h TO c d
  h1:BE t1 h i1 l1 k
  h2:BE t2 h i2 l2 k
theorem MA {t1 t2:Bool} {z TI TO i1 i2 l1 l2:Addr} {k:Nat} {xs ys:Array Value} {x y:Value} {Q:Value->Shared->Prop} (D:ZipApart z TI TO i1 i2 l1 l2) (Z:ZipSt t1 t2 s.heap z TI TO i1 i2 l1 l2 k)
    (q1:BM t1 s.heap l1 xs) (q2:BM t2 s.heap l2 ys) (hx:xs[k]?=some x) (hy:ys[k]?=some y)
    (fin:∀ h',IsZip h' z TI TO (rawInt s.heap.objs.size)->IsPair h' TO x y->BE t1 h' i1 l1 (k+1)->BE t2 h' i2 l2 (k+1)->IsPair h' s.heap.objs.size x y->
      (∀ c o,c≠z->c≠TO->c≠i1->c≠i2->s.heap.get? c=some o->h'.get? c=some o)->Q (.ref s.heap.objs.size) { s with heap:=h' }):
    wpAny (model prog w) A (Builtin.«zip.__next__» ⟨[.ref z],[]⟩) (λ fin s'=>∃ v,fin= .done (.ret v)/\Q v s') E s:=by
  obtain ⟨hz,hTI,⟨c0,d0,hTO⟩,g1,g2⟩:=Z;show wpAny _ _ (field (.ref z) 2 >>= _) _ _ _;refine wpAny_bind (wpAny_field hz rfl (x:= .bool false) rfl ?_);show wpAny _ _ (field (.ref z) 3 >>= _) _ _ _;refine wpAny_bind (wpAny_field hz rfl (x:= .ref TI) rfl (wpAny_bind (wpAny_seqItems hTI rfl ?_)));show wpAny _ _ (Builtin.SmallTypes.ownedTupleIsFree (.ref z) >>= _) _ _ _;refine wpAny_bind ?_;unfold Builtin.SmallTypes.ownedTupleIsFree;refine wpAny_bind (wpAny_field hz rfl (x:= .none) rfl (wpAny_pure ?_));simp only [if_true];refine wpAny_bind (wpAny_rule (wpAny_bind (wpAny_field hz rfl (x:= .ref TO) rfl (wpAny_bind (wpAny_setField_rec hz (by simp) λ a1 za b1=> ?_)))));replace za:IsZip a1 z TI TO .ellipsis:=za;refine wpAny_bind ?_;simp only [List.zipIdx_cons,List.zipIdx_nil,List.forIn_cons,List.forIn_nil];refine wpAny_bind (wpAny_bind (wpAny_onRaise ?_));show wpAny _ _ (Builtin.SmallTypes.nextOf (.ref i1) >>= _) _ _ _;refine wpAny_bind (Ff (s:={ s with heap:=a1 }) (AE g1 λ o e=>b1.extBut _ o D.i1z e) (Cy q1 λ o e=>b1.extBut _ o D.l1z e) hx λ a2 i1a b2=>wpAny_pure ?_);have to2:IsPair a2 TO c0 d0:=b2.extBut _ _ D.TOi1 (b1.extBut _ _ D.TOz hTO);refine wpAny_bind (wpAny_seqItems to2 rfl (wpAny_bind (wpAny_updateSeq_pair to2 λ a3 to3 b3=> ?_)));replace to3:IsPair a3 TO x d0:=to3;refine wpAny_bind (wpAny_letGo (wpAny_pure (wpAny_bind (wpAny_bind (wpAny_onRaise ?_)))));show wpAny _ _ (Builtin.SmallTypes.nextOf (.ref i2) >>= _) _ _ _;have up3:∀ c o,c≠z->c≠i1->c≠TO->s.heap.get? c=some o->a3.get? c=some o:=λ c o n1 n2 n3 e=>b3.extBut _ o n3 (b2.extBut _ o n2 (b1.extBut _ o n1 e));refine wpAny_bind (Ff (s:={ s with heap:=a3 }) (AE g2 λ o e=>up3 _ o D.i2z D.i12.symm D.TOi2.symm e) (Cy q2 λ o e=>up3 _ o D.l2z D.l2i1 D.l2TO e) hy λ a4 i2a b4=>wpAny_pure ?_);have to4:IsPair a4 TO x d0:=b4.extBut _ _ D.TOi2 to3;refine wpAny_bind (wpAny_seqItems to4 rfl (wpAny_bind (wpAny_updateSeq_pair to4 λ a5 to5 b5=> ?_)));replace to5:IsPair a5 TO x y:=to5;refine wpAny_bind (wpAny_letGo (wpAny_pure (wpAny_pure (wpAny_bind (wpAny_seqItems to5 rfl (wpAny_bind (wpAny_newTuple ?_)))))));have sz:a5.objs.size=s.heap.objs.size:=by rw [b5.1,b4.1,b3.1,b2.1,b1.1]
  have z5:IsZip a5 z TI TO .ellipsis:=b5.extBut _ _ D.TOz.symm (b4.extBut _ _ D.i2z.symm (b3.extBut _ _ D.TOz.symm (b2.extBut _ _ D.i1z.symm za)));have k5:∀ c o,c≠z->c≠TO->c≠i1->c≠i2->s.heap.get? c=some o->a5.get? c=some o:=λ c o n1 n2 n3 n4 e=>b5.extBut _ _ n2 (b4.extBut _ _ n4 (up3 c o n1 n3 n2 e));have f1:BE t1 a5 i1 l1 (k+1):=AE i1a λ o e=>b5.extBut _ o D.TOi1.symm (b4.extBut _ o D.i12 (b3.extBut _ o D.TOi1.symm e));have f2:BE t2 a5 i2 l2 (k+1):=AE i2a λ o e=>b5.extBut _ o D.TOi2.symm e;have zlt:z<a5.objs.size:=Heap.lt_size z5;show wpAny _ _ (Builtin.SmallTypes.ownedTupleHandOut (.ref z) (.ref a5.objs.size) >>= _) _ _ _;refine wpAny_bind ?_;unfold Builtin.SmallTypes.ownedTupleHandOut;have z6:IsZip (a5.push { cls:= .type "tuple",data:= .seq #[x,y] }) z TI TO .ellipsis:=Heap.get?_push_of_some _ z5;refine wpAny_bind (wpAny_setField_rec z6 (by simp) λ a7 z7 b7=> ?_);replace z7:IsZip a7 z TI TO (rawInt a5.objs.size):=z7;refine wpAny_setField_rec z7 (by simp) λ a8 z8 b8=> ?_;replace z8:IsZip a8 z TI TO (rawInt a5.objs.size):=z8;have up:∀ c o,c≠z->a5.get? c=some o->a8.get? c=some o:=λ c o n e=>b8.extBut _ _ n (b7.extBut _ _ n (Heap.get?_push_of_some _ e));have t8:IsPair a8 a5.objs.size x y:=b8.extBut _ _ (Nat.ne_of_gt zlt) (b7.extBut _ _ (Nat.ne_of_gt zlt) (Heap.get?_push_size _ rfl));rw [sz] at z8 t8;refine wpAny_pure ⟨_,rfl,?_⟩;show Q (.ref a5.objs.size) _;rw [sz];exact fin a8 z8 (up _ _ D.TOz to5) (AE f1 λ o e=>up _ o D.i1z e) (AE f2 λ o e=>up _ o D.i2z e) t8 λ c o n1 n2 n3 n4 e=>up c o n1 (k5 c o n1 n2 n3 n4 e)
theorem NY {t1 t2:Bool} {z TI TO i1 i2 l1 l2:Addr} {k:Nat} {xs ys:Array Value} {Q:Fin->Shared->Prop} (hh:A.handled=none) (D:ZipApart z TI TO i1 i2 l1 l2) (Z:ZipSt t1 t2 s.heap z TI TO i1 i2 l1 l2 k)
    (q1:BM t1 s.heap l1 xs) (q2:BM t2 s.heap l2 ys) (hend:xs[k]?=none\/ys[k]?=none)
    (fin:∀ h' e,(∀ c o,c≠z->c≠TO->c≠i1->c≠i2->s.heap.get? c=some o->h'.get? c=some o)->(∃ o,h'.get? e=some o/\o.cls= .type "StopIteration")->E (.ref e) { s with heap:=h' }):
    wpAny (model prog w) A (Builtin.«zip.__next__» ⟨[.ref z],[]⟩) Q E s:=by
  obtain ⟨hz,hTI,⟨c0,d0,hTO⟩,g1,g2⟩:=Z;show wpAny _ _ (field (.ref z) 2 >>= _) _ _ _;refine wpAny_bind (wpAny_field hz rfl (x:= .bool false) rfl ?_);show wpAny _ _ (field (.ref z) 3 >>= _) _ _ _;refine wpAny_bind (wpAny_field hz rfl (x:= .ref TI) rfl (wpAny_bind (wpAny_seqItems hTI rfl ?_)));show wpAny _ _ (Builtin.SmallTypes.ownedTupleIsFree (.ref z) >>= _) _ _ _;refine wpAny_bind ?_;unfold Builtin.SmallTypes.ownedTupleIsFree;refine wpAny_bind (wpAny_field hz rfl (x:= .none) rfl (wpAny_pure ?_));simp only [if_true];refine wpAny_bind (wpAny_rule (wpAny_bind (wpAny_field hz rfl (x:= .ref TO) rfl (wpAny_bind (wpAny_setField_rec hz (by simp) λ a1 za b1=> ?_)))));replace za:IsZip a1 z TI TO .ellipsis:=za;refine wpAny_bind ?_;simp only [List.zipIdx_cons,List.zipIdx_nil,List.forIn_cons,List.forIn_nil];refine wpAny_bind (wpAny_bind (wpAny_onRaise ?_));show wpAny _ _ (Builtin.SmallTypes.nextOf (.ref i1) >>= _) _ _ _;have g1':=AE g1 λ o e=>b1.extBut _ o D.i1z e;have q1':=Cy q1 λ o e=>b1.extBut _ o D.l1z e;cases hx:xs[k]? with
  | none=>
    refine wpAny_bind (GS (s:={ s with heap:=a1 }) hh g1' q1' hx λ a2 e b2 he=> ?_);obtain ⟨oe,eo,ce⟩:=he;have z2:IsZip a2 z TI TO .ellipsis:=b2 _ _ D.i1z.symm za;have nz:e≠z:=λ q=>by subst q;rw [z2] at eo;cases eo;simp at ce
    exact wpAny_setField_rec z2 (by simp) λ a3 _ b3=>fin a3 e (λ c o n1 _ n3 _ q=>b3.extBut _ _ n1 (b2 _ _ n3 (b1.extBut _ _ n1 q))) ⟨oe,b3.extBut _ _ nz eo,ce⟩
  | some x=>
    have hy:ys[k]?=none:=by
      rcases hend with q | q
      · rw [hx] at q;cases q
      · exact q
    refine wpAny_bind (Ff (s:={ s with heap:=a1 }) g1' q1' hx λ a2 i1a b2=>wpAny_pure ?_);have to2:IsPair a2 TO c0 d0:=b2.extBut _ _ D.TOi1 (b1.extBut _ _ D.TOz hTO);refine wpAny_bind (wpAny_seqItems to2 rfl (wpAny_bind (wpAny_updateSeq_pair to2 λ a3 to3 b3=> ?_)));refine wpAny_bind (wpAny_letGo (wpAny_pure (wpAny_bind (wpAny_bind (wpAny_onRaise ?_)))));show wpAny _ _ (Builtin.SmallTypes.nextOf (.ref i2) >>= _) _ _ _;have up3:∀ c o,c≠z->c≠i1->c≠TO->s.heap.get? c=some o->a3.get? c=some o:=λ c o n1 n2 n3 e=>b3.extBut _ o n3 (b2.extBut _ o n2 (b1.extBut _ o n1 e));refine wpAny_bind (GS (s:={ s with heap:=a3 }) hh (AE g2 λ o e=>up3 _ o D.i2z D.i12.symm D.TOi2.symm e) (Cy q2 λ o e=>up3 _ o D.l2z D.l2i1 D.l2TO e) hy λ a4 e b4 he=> ?_);obtain ⟨oe,eo,ce⟩:=he;have z4:IsZip a4 z TI TO .ellipsis:=b4 _ _ D.i2z.symm (b3.extBut _ _ D.TOz.symm (b2.extBut _ _ D.i1z.symm za));have nz:e≠z:=λ q=>by subst q;rw [z4] at eo;cases eo;simp at ce
    exact wpAny_setField_rec z4 (by simp) λ a5 _ b5=>fin a5 e (λ c o n1 n2 n3 n4 q=>b5.extBut _ _ n1 (b4 _ _ n4 (up3 c o n1 n3 n2 q))) ⟨oe,b5.extBut _ _ nz eo,ce⟩
noncomputable def Jc (tp:Bool):String:=if tp=true then "tuple_iterator" else "list_iterator"
theorem He {tp:Bool} {l:Addr} {xs:Array Value} {Q:Value->Shared->Prop} (hq:BM tp s.heap l xs) (k:Q (.ref s.heap.objs.size) { s with heap:=s.heap.push { cls:= .type (Jc tp),data:= .fields #[.ref l, .int 0 0] } }):
    wpAny (model prog w) A (pyIter (.ref l)) Q E s:=by
  cases tp with
  | false=>exact wpAny_pyIter_list (show s.heap.IsList l xs from hq) k
  | true=>exact wpAny_pyIter_tuple (show s.heap.IsTuple l xs from hq) k
theorem F1 {tp:Bool} {h:Heap} {l:Addr}:BE tp (h.push { cls:= .type (Jc tp),data:= .fields #[.ref l, .int 0 0] }) h.objs.size l 0:=by
  cases tp with
  | false=>exact (show Heap.IsListIter _ _ l 0 from ⟨_,Heap.get?_push_size _ rfl,rfl,rfl⟩)
  | true=>exact (show Heap.IsTupleIter _ _ l 0 from ⟨_,Heap.get?_push_size _ rfl,rfl,rfl⟩)
noncomputable abbrev zs1 (t1:Bool) (h:Heap) (l1:Addr):Heap:=h.push { cls:= .type (Jc t1),data:= .fields #[.ref l1, .int 0 0] }
noncomputable abbrev zs2 (t1 t2:Bool) (h:Heap) (l1 l2:Addr):Heap:=(zs1 t1 h l1).push { cls:= .type (Jc t2),data:= .fields #[.ref l2, .int 0 0] }
noncomputable abbrev zs3 (t1 t2:Bool) (h:Heap) (l1 l2:Addr):Heap:=(zs2 t1 t2 h l1 l2).push { cls:= .type "tuple",data:= .seq #[.ref h.objs.size, .ref (zs1 t1 h l1).objs.size] }
noncomputable abbrev zs4 (t1 t2:Bool) (h:Heap) (l1 l2:Addr):Heap:=(zs3 t1 t2 h l1 l2).push { cls:= .type "tuple",data:= .seq #[.none, .none] }
noncomputable abbrev zs5 (t1 t2:Bool) (h:Heap) (l1 l2:Addr):Heap:=(zs4 t1 t2 h l1 l2).push { cls:= .type "zip",data:= .fields #[.none, .bool false, .bool false, .ref (zs2 t1 t2 h l1 l2).objs.size, .ref (zs3 t1 t2 h l1 l2).objs.size] }
theorem KO (t1 t2:Bool) (l1 l2:Addr) (xs ys:Array Value):
    Meets (Builtin.«zip.__new__» ⟨[.type "zip", .ref l1, .ref l2],[]⟩) (λ _ R s=>BM t1 s.heap l1 xs/\BM t2 s.heap l2 ys/\
      R (.ok (.ret (.ref (zs4 t1 t2 s.heap l1 l2).objs.size))) { s with heap:=zs5 t1 t2 s.heap l1 l2 }):=
  .of_wp λ prog w A R s h=>by
    obtain ⟨hp,g,d,tk,os⟩:=s;obtain ⟨m1,m2,h⟩:=h;have hsub:=sub_zip;have M1:BM t1 (Shared.heap ⟨hp,g,d,tk,os⟩) l1 xs:=m1;have M2:BM t2 (Shared.heap ⟨hp.push { cls:= .type (Jc t1),data:= .fields #[.ref l1, .int 0 0] },g,d,tk,os⟩) l2 ys:=Cy m2 λ o e=>Heap.get?_push_of_some _ e
    wp_walk using He M1,He M2
    exact ⟨_,rfl,h⟩
theorem Mu {t1 t2:Bool} {l1 l2:Addr} {xs ys:Array Value} {Q:Value->Shared->Prop} (m1:BM t1 s.heap l1 xs) (m2:BM t2 s.heap l2 ys)
    (k:∀ h',ZipSt t1 t2 h' (s.heap.objs.size+4) (s.heap.objs.size+2) (s.heap.objs.size+3) s.heap.objs.size (s.heap.objs.size+1) l1 l2 0->
      (∀ c o,s.heap.get? c=some o->h'.get? c=some o)->Q (.ref (s.heap.objs.size+4)) { s with heap:=h' }):
    wpAny (model prog w) A (call (.type "zip") [.ref l1, .ref l2]) Q E s:=by
  refine callType_new F.called_zip (by decide) (F.typeCall_zip_2 _ _) (F.newCall_zip_2 _ _) (λ obj=>F.args_object_init_3 obj _ _) F.entry_zip_new (KO t1 t2 l1 l2 xs ys) ⟨m1,m2,?_⟩;have n1:(zs1 t1 s.heap l1).objs.size=s.heap.objs.size+1:=Heap.size_push ..;have n2:(zs2 t1 t2 s.heap l1 l2).objs.size=s.heap.objs.size+2:=by rw [Heap.size_push,n1]
  have n3:(zs3 t1 t2 s.heap l1 l2).objs.size=s.heap.objs.size+3:=by rw [Heap.size_push,n2]
  have n4:(zs4 t1 t2 s.heap l1 l2).objs.size=s.heap.objs.size+4:=by rw [Heap.size_push,n3]
  have g5:(zs5 t1 t2 s.heap l1 l2).get? (zs4 t1 t2 s.heap l1 l2).objs.size=some _:=Heap.get?_push_size _ rfl;have g4:(zs5 t1 t2 s.heap l1 l2).get? (zs3 t1 t2 s.heap l1 l2).objs.size=some _:=Heap.get?_push_of_some _ (Heap.get?_push_size _ rfl);have g3:(zs5 t1 t2 s.heap l1 l2).get? (zs2 t1 t2 s.heap l1 l2).objs.size=some _:=Heap.get?_push_of_some _ (Heap.get?_push_of_some _ (Heap.get?_push_size _ rfl));have up2:∀ c o,(zs2 t1 t2 s.heap l1 l2).get? c=some o->(zs5 t1 t2 s.heap l1 l2).get? c=some o:=λ c o e=>Heap.get?_push_of_some _ (Heap.get?_push_of_some _ (Heap.get?_push_of_some _ e));have s2:BE t2 (zs5 t1 t2 s.heap l1 l2) (zs1 t1 s.heap l1).objs.size l2 0:=AE F1 λ o e=>up2 _ o e;have s1:BE t1 (zs5 t1 t2 s.heap l1 l2) s.heap.objs.size l1 0:=AE F1 λ o e=>up2 _ o (Heap.get?_push_of_some _ e);show _/\_;rw [n2,n3,n4] at g5;rw [n1,n2] at g3;rw [n3] at g4;rw [n1] at s2;rw [n4];exact ⟨⟨_,g5,rfl⟩,k _ ⟨g5,g3,⟨_,_,g4⟩,s1,s2⟩ λ c o e=>up2 c o (Heap.get?_push_of_some _ (Heap.get?_push_of_some _ e))⟩
end
def SqS (tp:Bool) (K:PySem.W.Frag) (H:Hp) (a:Addr) (xs:List V):Prop:=if tp=true then SqT K H a xs else SqL K H a xs
theorem Cc {X:Cx} {pins:List (Addr × Obj)} {σ:St} {H:Hp} {s:Shared} {tp:Bool} {a:Addr} {xs:List V} (I:Inv X pins σ H s) (h:SqS tp X.K H a xs):∃ its:List Value,Vals xs its/\BM tp s.heap a its.toArray:=by
  cases tp with
  | false=>
    obtain ⟨its,r,p,_⟩:=I.list (show SqL X.K H a xs from h);exact ⟨its,r,(show s.heap.IsList a its.toArray from p.isList)⟩
  | true=>
    obtain ⟨its,r,p,_⟩:=I.tuple (show SqT X.K H a xs from h);exact ⟨its,r,(show s.heap.IsTuple a its.toArray from p)⟩
theorem Jm {X:Cx} {pins:List (Addr × Obj)} {σ:St} {H:Hp} {s:Shared} {tp:Bool} {a:Addr} {xs ys:List V} (I:Inv X pins σ H s) (h:SqS tp X.K H a xs) (h2:SqS tp X.K H a ys):xs=ys:=by
  cases tp with
  | false=>exact I.list_inj h h2
  | true=>exact I.tuple_inj h h2
noncomputable def Izs (t1 t2:Bool) (K:PySem.W.Frag) (a b:Addr):It:=
  ⟨λ i H=>∃ xs ys x y,SqS t1 K H a xs/\SqS t2 K H b ys/\xs[i]?=some x/\ys[i]?=some y,
   λ i H v H'=>∃ p x y,H p=none/\v= .ref p/\H'=upd H p (.tup [x,y])/\(∀ xs,SqS t1 K H a xs->xs[i]?=some x)/\∀ ys,SqS t2 K H b ys->ys[i]?=some y,
   λ i H=>∃ xs ys,SqS t1 K H a xs/\SqS t2 K H b ys/\(xs.length<=i\/ys.length<=i)⟩
theorem Pl {P:Program} {w:World} {K:PySem.W.Frag} {elts:List Expr} {k:Nat} {pos:Pos} (t1 t2:Bool) (a b z TI TO i1 i2:Addr) (D:ZipApart z TI TO i1 i2 a b):
    Turn P w K (.Tuple elts k pos) (Izs t1 t2 K a b) [z,TI,TO,i1,i2] z (λ i h=>ZipSt t1 t2 h z TI TO i1 i2 a b i) where
  mem:=by simp
  obj:=λ i h st c hc=>by
    obtain ⟨hz,hTI,⟨x,y,hTO⟩,h1,h2⟩:=st;obtain ⟨o1,e1,d1⟩:=BD h1;obtain ⟨o2,e2,d2⟩:=BD h2;simp only [List.mem_cons,List.not_mem_nil,or_false] at hc;rcases hc with q | q | q | q | q
    · subst q;exact ⟨_,hz,λ v z=>by cases (show Data.fields _=Data.cell v from z)⟩
    · subst q;exact ⟨_,hTI,λ v z=>by cases (show Data.seq _ _=Data.cell v from z)⟩
    · subst q;exact ⟨_,hTO,λ v z=>by cases (show Data.seq _ _=Data.cell v from z)⟩
    · subst q;exact ⟨o1,e1,λ v z=>by rw [d1] at z;cases z⟩
    · subst q;exact ⟨o2,e2,λ v z=>by rw [d2] at z;cases z⟩
  keep:=λ i h h' st kp=>by
    obtain ⟨hz,hTI,⟨x,y,hTO⟩,h1,h2⟩:=st;exact ⟨kp z (by simp) _ hz,kp TI (by simp) _ hTI,⟨x,y,kp TO (by simp) _ hTO⟩,AE h1 λ o q=>kp i1 (by simp) o q,AE h2 λ o q=>kp i2 (by simp) o q⟩
  item:=by
    intro X hP hw hK hc i pins s σ H E I hf st hg;subst hP hw hK;obtain ⟨xs,ys,x,y,hq1,hq2,hx,hy⟩:=hg;obtain ⟨its,rv,p1⟩:=Cc I hq1;obtain ⟨its2,rv2,p2⟩:=Cc I hq2;obtain ⟨u,hu,ru⟩:=rv.get hx;obtain ⟨u2,hu2,ru2⟩:=rv2.get hy;have lt:∀ q∈[z,TI,TO,i1,i2],q<s.heap.objs.size:=λ q hq=>by
      obtain ⟨hz,hTI,⟨c,d,hTO⟩,h1,h2⟩:=id st;obtain ⟨_,e1,_⟩:=BD h1;obtain ⟨_,e2,_⟩:=BD h2;simp only [List.mem_cons,List.not_mem_nil,or_false] at hq;rcases hq with q' | q' | q' | q' | q'
      · subst q';exact Heap.lt_size hz
      · subst q';exact Heap.lt_size hTI
      · subst q';exact Heap.lt_size hTO
      · subst q';exact Heap.lt_size e1
      · subst q';exact Heap.lt_size e2
    have hT0:s.TypeIs (.ref z) "zip":=⟨_,st.hz,rfl⟩;unfold pyNext;refine wpAny_bind (wpAny_attempt (wpAny_callSpecial?_slot (name:=Str.ofString "__next__") hT0 F.slot_zip_next (wpAny_call_entry F.slot_zip_next hT0 F.entry_zip_next
      (MA D st p1 p2 (x:=u) (y:=u2) (by simpa using hu) (by simpa using hu2) λ h' hz' hTO' h1' h2' hT hk=>wpAny_pure ?_) (F.args_zip_next_1 _))))
    have I0:=I.laid (h':=s.heap.push { cls:= .type "tuple",data:= .seq #[u,u2] }) (a:=s.heap.objs.size) (o:= .tup [x,y]) (t':=s.toks) (λ _ _ q=>Heap.get?_push_of_some _ q) (Nat.le_refl _)
      ⟨(by show 2<=sizeLine;decide),[u,u2], .cons ru (.cons ru2 .nil),⟨_,Heap.get?_push_size _ rfl,rfl,_,rfl⟩⟩
    have f0:∀ b∈[z,TI,TO,i1,i2],Ed X pins (upd H s.heap.objs.size (.tup [x,y])) b:=λ b hb=>Lh (hf b hb) (Nat.ne_of_lt (lt b hb));have I1:=Inv.turnedL (t':=s.toks) (h':=h') [z,TI,TO,i1,i2] I0 f0 (λ b o hb q=>by
      rcases Heap.get?_push_cases (show (s.heap.push { cls:= .type "tuple",data:= .seq #[u,u2] }).get? b=some o from q) with ⟨q1,q2⟩ | q
      · rw [q1,q2];exact hT
      · exact hk b o (λ e=>hb (by simp [e])) (λ e=>hb (by simp [e])) (λ e=>hb (by simp [e])) (λ e=>hb (by simp [e])) q)
    refine ⟨.ref s.heap.objs.size,rfl,wpAny_letOwnedTupleGo_zip (s:={ s with heap:=h' }) hz' λ h3 hz3 sb=> ?_⟩;refine ⟨.ref s.heap.objs.size,_,Inv.turnedL (t':=s.toks) (h':=h3) [z,TI,TO,i1,i2] I1 f0 (λ b o hb q=>(sb.2 b λ e=>hb (by simp [e])).trans q),rfl,
      ⟨_,x,y,I.fresh,rfl,rfl,λ l hl=>by rw [Jm I hl hq1];exact hx,λ l hl=>by rw [Jm I hl hq2];exact hy⟩,
      ⟨hz3,(sb.2 TI D.TIz).trans (hk TI _ D.TIz D.TITO D.TIi1 D.TIi2 st.hTI),⟨u,u2,(sb.2 TO D.TOz).trans hTO'⟩,AE h1' λ o q=>(sb.2 i1 D.i1z).trans q,AE h2' λ o q=>(sb.2 i2 D.i2z).trans q⟩,λ b hb=>(f0 b hb).1⟩
  done:=by
    intro X hP hw hK hc i pins s σ H E I hf st hg;subst hP hw hK;obtain ⟨xs,ys,hq1,hq2,hx⟩:=hg;obtain ⟨its,rv,p1⟩:=Cc I hq1;obtain ⟨its2,rv2,p2⟩:=Cc I hq2;have hl:=rv.length;have hl2:=rv2.length;have hT0:s.TypeIs (.ref z) "zip":=⟨_,st.hz,rfl⟩;unfold pyNext;refine wpAny_bind (wpAny_attempt (wpAny_callSpecial?_slot (name:=Str.ofString "__next__") hT0 F.slot_zip_next (wpAny_call_entry F.slot_zip_next hT0 F.entry_zip_next
      (NY (I.ok.hd hc) D st p1 p2 (hx.elim (λ q=> .inl (by simp;omega)) λ q=> .inr (by simp;omega)) λ h' e eb he=> ?_) (F.args_zip_next_1 _))))
    obtain ⟨oe,eo,ce⟩:=he;refine wpAny_bind (wpAny_isInstance (T:="StopIteration") (b:=true) ⟨oe,eo,ce⟩ isSubtype_stop (wpAny_pure ?_));exact ⟨rfl,I.turnedL (t':=s.toks) [z,TI,TO,i1,i2] hf λ b o hb q=>eb b o (λ e=>hb (by simp [e])) (λ e=>hb (by simp [e])) (λ e=>hb (by simp [e])) (λ e=>hb (by simp [e])) q⟩
  self:=λ _ _ _ _ _ st h=>wpAny_pyIter_zip st.hz h
section
variable {X:Cx} {elts:List Expr} {k:Nat} {tpos:Pos} {K:PySem.W.Frag}
def iZs (K:PySem.W.Frag) (ta:TA):TI:=λ σ H R=>ta σ H λ vs H1=>∃ t1 t2 a b,vs=[.ref a, .ref b]/\(∃ xs,SqS t1 K H1 a xs)/\(∃ ys,SqS t2 K H1 b ys)/\R (Izs t1 t2 K a b) H1
theorem Qc {l m:Expr} {ta:TA} {p pos:Pos} (hg:Gl X "zip") (hm:X.mg "zip"=none) (ha:PA X [l,m] ta) (hK:X.K=K:=by rfl) (hs:starEach [l,m] X.env=[(false,eval l X.env),(false,eval m X.env)]:=by rfl) (hs2:starEach [m] X.env=[(false,eval m X.env)]:=by rfl):
    PI X (.Tuple elts k tpos) (.Call (.Name "zip" p) [l,m] [] pos) (iZs K ta):=by
  subst hK;intro pins s σ H R I h;refine Call_ (Di I hg hm M5 (PyProof.Rows.callWith_type1 (thn (ha pos pins s σ H _ I h) λ us s1 ⟨vs,H1,I1,r1,q1⟩=> ?_) (by rw [hs,hs2]) (by rw [hs2];rfl)));obtain ⟨t1,t2,a,b,e,⟨xs,hq⟩,⟨ys,hq2⟩,q⟩:=q1;subst e;cases r1 with
  | cons r rr=>
    cases rr with
    | cons r' rr=>
    cases rr;cases r;cases r';obtain ⟨its,rv,pl⟩:=Cc I1 hq;obtain ⟨its2,rv2,pl2⟩:=Cc I1 hq2;obtain ⟨oa,_,ea,_⟩:=EG pl;obtain ⟨ob,_,eb,_⟩:=EG pl2;refine Mu pl pl2 λ h' st hk=> ?_;refine wpAny_pyIter_zip st.hz ?_;have I2:=I1.kept (t':=s1.toks) hk;refine ⟨s1.heap.objs.size+4,_,_,_,H1,rfl,I2,Pl t1 t2 a b _ _ _ _ _ (PySem.W.ktu_apart s1.heap.objs.size a b (Heap.lt_size ea) (Heap.lt_size eb)),st,λ c hc=> ?_,q⟩;have hb':s1.heap.objs.size<=c:=by
      simp only [List.mem_cons,List.not_mem_nil,or_false] at hc;rcases hc with q | q | q | q | q <;> rw [q] <;> first | exact Nat.le_refl _ | exact Nat.le_add_right _ _
    exact I1.fpOk hb' (I1.hok.fresh hb')
end
section
variable {X:Cx} {K:PySem.W.Frag}
theorem AF:bootBuiltins "list"=some (.type "list"):=by decide +kernel
theorem AI:bootBuiltins "tuple"=some (.type "tuple"):=by decide +kernel
def MQ (K:PySem.W.Frag):List V->Hp->VK->Prop:=λ xs H Q=>∃ (x:V) (p:Addr) (ns:List String) (t:Value) (b:Bool),xs=[x, .ref p]/\H p=some (.tup (ns.map V.ty))/\TyOf K H x t/\PySem.W.kitAny K t (ns.map Value.type)=some b/\Q (.bl b) H
theorem Lx:∀ {ns:List String} {us:List Value},Vals (ns.map V.ty) us->us=ns.map Value.type
  | [],us,r=>by cases r;rfl
  | n::ns,us,r=>by
    cases r with
    | cons r1 r2=>
      cases r1;rw [Lx r2];rfl
theorem OD (hK:X.K=K:=by rfl):BG X (.builtin "isinstance") (MQ K):=by
  subst hK;intro pins s σ H xs us Q I r h;obtain ⟨x,p,ns,t,b,rfl,hp,ty,e,q⟩:=h;obtain ⟨u,c,rfl,rx,rc⟩:=PV r;cases rc;obtain ⟨_,its,rt,ot,e1,e2,nt,e3⟩:=(show ObjOk X.prog X.w H s.heap p (.tup (ns.map V.ty)) from I.hok p _ hp);have ei:=Lx rt;subst ei;have htp:s.heap.get? p=some ⟨.type "tuple",ot.dict, .seq (ns.map Value.type).toArray nt,ot.slots⟩:=by
    rw [e1];obtain ⟨c,d,da,sl⟩:=ot;simp only at e2 e3;rw [e2,e3]
  have fin:∀ tk,EP X pins σ Q (.bool b) { s with toks:=tk }:=λ tk=>⟨.bl b,H,I.tok tk,rfl,q⟩;cases ty with
  | non=>cases (show u=Value.none from rx);exact PySem.W.kia_tup PySem.W.kitx_none I.kIn True.intro htp e (λ z=>nomatch z) fin
  | bl y=>cases (show u=Value.bool y from rx);exact PySem.W.kia_tup PySem.W.kitx_bool I.kIn True.intro htp e (λ z=>nomatch z) fin
  | int i=>obtain ⟨t,q⟩:=(show ∃ t,u=Value.int i t from rx);cases q;exact PySem.W.kia_tup PySem.W.kitx_int I.kIn True.intro htp e (λ z=>nomatch z) fin
  | str y=>obtain ⟨t,q⟩:=(show ∃ t,u=Value.str y t from rx);cases q;exact PySem.W.kia_tup PySem.W.kitx_str I.kIn True.intro htp e (λ z=>nomatch z) fin
  | flt y=>obtain ⟨t,q⟩:=(show ∃ t,u=Value.float y t from rx);cases q;exact PySem.W.kia_tup PySem.W.kitx_float I.kIn True.intro htp e (λ z=>nomatch z) fin
  | @lst a xs ea=>
    cases (show u=Value.ref a from rx);obtain ⟨_,_,n,_,h1⟩:=(show ObjOk X.prog X.w H s.heap a (.lst xs) from I.hok a _ ea);exact PySem.W.kia_tup PySem.W.kitx_list I.kIn ⟨_,h1,rfl⟩ htp e (λ z=>nomatch z) fin
  | @frz a ob xs ea=>
    cases (show u=Value.ref a from rx);obtain ⟨_,_,_,n,_,h1⟩:=(show ObjOk X.prog X.w H s.heap a (.frz ob (.lst xs)) from I.hok a _ ea);exact PySem.W.kia_tup PySem.W.kitx_list I.kIn ⟨_,h1,rfl⟩ htp e (λ z=>nomatch z) fin
  | @tup a xs ea=>
    cases (show u=Value.ref a from rx);obtain ⟨_,_,_,p⟩:=(show ObjOk X.prog X.w H s.heap a (.tup xs) from I.hok a _ ea);obtain ⟨o,h1,h2,_⟩:=p;exact PySem.W.kia_tup PySem.W.kitx_tuple I.kIn ⟨o,h1,h2⟩ htp e (λ z=>nomatch z) fin
  | @dK a kvs ea=>
    cases (show u=Value.ref a from rx);obtain ⟨_,_,vs,_,p⟩:=(show ObjOk X.prog X.w H s.heap a (.dK kvs) from I.hok a _ ea);obtain ⟨o,es,ep,h1,h2,_⟩:=p;exact PySem.W.kia_tup PySem.W.kitx_dict I.kIn ⟨o,h1,h2.1⟩ htp e (λ z=>nomatch z) fin
  | @dT a kvs ea=>
    cases (show u=Value.ref a from rx);obtain ⟨_,_,xs,_,o,es,ep,h1,h2,_⟩:=(show ObjOk X.prog X.w H s.heap a (.dT kvs) from I.hok a _ ea);exact PySem.W.kia_tup PySem.W.kitx_dict I.kIn ⟨o,h1,h2.1⟩ htp e (λ z=>nomatch z) fin
  | @ins a C dx fs ea cl ha hn htk hm=>
    cases (show u=Value.ref a from rx);obtain ⟨mA,O,_⟩:=FU I.hok ea;obtain ⟨od,J,_⟩:=O.look;exact PySem.W.kia_tup (PySem.W.kitx_own (cl.get _) cl.hd ha hn htk hm) I.kIn J htp e (λ z=>nomatch z) fin
theorem Jj {es:List Expr} {k:Nat} {t:TGs} {n:Nat} {pos:Pos} (hc:X.calm=true) (h:PGs X es t) (hK:X.K=K:=by rfl)
    (hn:(assignEach es X.env).length=n:=by rfl) (hst:(assignEach es X.env).findIdx? (·.1)=none:=by rfl):PG X (.Tuple es k pos) (HI K n t):=by
  subst hK;exact ND hc h hn hst
variable {scope:Scope} {fr:List (Str × Nat)}
theorem OY {x y:Str} {px py pt:Pos} {k:Nat} (h:Fj X.env.scope X.N scope [x,y] fr=true) (hc:X.calm=true) (C:Addr) (ex:List Addr) (s:Shared) (H:Hp) (hK:X.K=K:=by rfl):
    PG (Bh X scope [x,y] fr C ex s H) (.Tuple [.Name x px, .Name y py] k pt) (HI K 2 (BN (AS 0) (BN (AS 1) HR))):=by
  subst hK;exact ND (X:=Bh X scope [x,y] fr C ex s H) hc (AY (JN h rfl C ex s H) (AY (JN h rfl C ex s H) Ft))
theorem Kl {elt iter:Expr} {x y:Str} {px py pt:Pos} {k:Nat} {ifs:List Expr} {pos:Pos} {wi:TI} {tc:TT} {te:TE} (hi:PI X (.Tuple [.Name x px, .Name y py] k pt) iter wi)
    (ht:∀ C ex s H,PTs (Bh X scope [x,y] (GI X.N scope) C ex s H) ifs tc) (he:∀ C ex s H,PE (Bh X scope [x,y] (GI X.N scope) C ex s H) elt te) (hK:X.K=K:=by rfl)
    (hb:Fj X.env.scope X.N scope [x,y] (GI X.N scope)=true:=by with_unfolding_all rfl) (hc:X.calm=true:=by rfl)
    (hs:∀ x,foldedSetIterable iter X.env x=pure x:=by intro _;rfl):PE X (.ListComp elt [⟨.Tuple [.Name x px, .Name y py] k pt,iter,ifs,0⟩] scope pos) (IU wi [x,y] (GI X.N scope) (HI K 2 (BN (AS 0) (BN (AS 1) HR))) tc te):=
  LY hc (.of hb) hi (λ C ex s H=>OY hb hc C ex s H hK) ht he hs
end
section
variable {K:PySem.W.Frag} {D:Addr} {σ0:St} {tc:TT} {te:TE} {Q:VK} {H:Hp}
theorem RO {a:Addr} {xs:List V} (Pv:Nat->List V->Hp->Prop) (h0:Pv 0 [] (upd H D (.lst [])))
    (hl:∀ i ys H,i<=xs.length->Pv i ys H->SqL K H a xs)
    (hs:∀ i x ys H p,xs[i]?=some x->Pv i ys H->H p=none->Kp σ0 ((σ0.set 0 (some (.int i))).set 1 (some x))/\tc ((σ0.set 0 (some (.int i))).set 1 (some x)) (upd H p (.tup [.int i,x])) λ b H3=>
      if b=true then te ((σ0.set 0 (some (.int i))).set 1 (some x)) H3 λ y H4=>H4 D=some (.lst ys)/\ys.length<sizeLine/\Pv (i+1) (ys++[y]) (upd H4 D (.lst (ys++[y]))) else Pv (i+1) ys H3)
    (hd:∀ ys H,Pv xs.length ys H->Q (.ref D) H):
    DW (Ite K a) σ0 (HI K 2 (BN (AS 0) (BN (AS 1) HR))) tc te Q H D:=by
  refine ⟨λ i m ys H=>m=xs.length - i/\i<=xs.length/\Pv i ys H,⟨_,rfl,Nat.zero_le _,h0⟩,?_⟩;rintro i m ys H ⟨rfl,hi,p⟩;have q:=hl i ys H hi p;by_cases hlt:i<xs.length
  · refine .inr ⟨⟨xs,xs[i],q,by simp [hlt]⟩,Pv (i+1),λ ys' H' p'=>⟨xs.length - (i+1),by omega,rfl,hlt,p'⟩,λ x H' y=> ?_⟩;obtain ⟨pp,v,hp,rfl,rfl,hv⟩:=y;exact ⟨pp,_,rfl,SqT.of Ag,rfl,_,_,rfl,_,_,rfl,rfl,hs i v ys H pp (hv xs q) p hp⟩
  · have e:i=xs.length:=by omega
    subst e;exact .inl ⟨⟨xs,q,Nat.le_refl _⟩,hd ys H p⟩
theorem OG {t1 t2:Bool} {a b:Addr} {xs zs:List V} (hlen:xs.length=zs.length) (Pv:Nat->List V->Hp->Prop) (h0:Pv 0 [] (upd H D (.lst [])))
    (hl:∀ i ys H,i<=xs.length->Pv i ys H->SqS t1 K H a xs/\SqS t2 K H b zs)
    (hs:∀ i x z ys H p,xs[i]?=some x->zs[i]?=some z->Pv i ys H->H p=none->Kp σ0 ((σ0.set 0 (some x)).set 1 (some z))/\tc ((σ0.set 0 (some x)).set 1 (some z)) (upd H p (.tup [x,z])) λ b H3=>
      if b=true then te ((σ0.set 0 (some x)).set 1 (some z)) H3 λ y H4=>H4 D=some (.lst ys)/\ys.length<sizeLine/\Pv (i+1) (ys++[y]) (upd H4 D (.lst (ys++[y]))) else Pv (i+1) ys H3)
    (hd:∀ ys H,Pv xs.length ys H->Q (.ref D) H):
    DW (Izs t1 t2 K a b) σ0 (HI K 2 (BN (AS 0) (BN (AS 1) HR))) tc te Q H D:=by
  refine ⟨λ i m ys H=>m=xs.length - i/\i<=xs.length/\Pv i ys H,⟨_,rfl,Nat.zero_le _,h0⟩,?_⟩;rintro i m ys H ⟨rfl,hi,p⟩;obtain ⟨q1,q2⟩:=hl i ys H hi p;by_cases hlt:i<xs.length
  · refine .inr ⟨⟨xs,zs,xs[i],zs[i]'(by omega),q1,q2,by simp [hlt],by simp⟩,Pv (i+1),λ ys' H' p'=>⟨xs.length - (i+1),by omega,rfl,hlt,p'⟩,λ x H' y=> ?_⟩;obtain ⟨pp,v,z,hp,rfl,rfl,hv,hz⟩:=y;exact ⟨pp,_,rfl,SqT.of Ag,rfl,_,_,rfl,_,_,rfl,rfl,hs i v z ys H pp (hv xs q1) (hz zs q2) p hp⟩
  · have e:i=xs.length:=by omega
    subst e;exact .inl ⟨⟨xs,zs,q1,q2, .inl (Nat.le_refl _)⟩,hd ys H p⟩
theorem NT {a:Addr} {xs:List V} {i1 i2:Nat} {tb:TS} {D:Ends} {σ:St} (Pv:Nat->St->Hp->Prop) (h0:Pv 0 σ H) (hl:∀ i σ H,i<=xs.length->Pv i σ H->SqL K H a xs)
    (hs:∀ i x σ H p,xs[i]?=some x->Pv i σ H->H p=none->tb { D with nx:=Pv (i+1),ct:=Pv (i+1),bk:=D.nx } ((σ.set i1 (some (.int i))).set i2 (some x)) (upd H p (.tup [.int i,x]))) (hd:∀ σ H,Pv xs.length σ H->D.nx σ H):
    ∃ W:Nat->Nat->St->Hp->Prop,(∃ m,W 0 m σ H)/\∀ i m σ H,W i m σ H->
      ((Ite K a).stop i H/\D.nx σ H)\/((Ite K a).go i H/\∃ N:St->Hp->Prop,(∀ σ' H',N σ' H'->∃ m',m'<m/\W (i+1) m' σ' H')/\∀ x H',(Ite K a).yld i H x H'->(HI K 2 (BN (AS i1) (BN (AS i2) HR))) x σ H' λ σ2 H2=>tb { D with nx:=N,ct:=N,bk:=D.nx } σ2 H2):=by
  refine ⟨λ i m σ H=>m=xs.length - i/\i<=xs.length/\Pv i σ H,⟨_,rfl,Nat.zero_le _,h0⟩,?_⟩;rintro i m σ H ⟨rfl,hi,p⟩;have q:=hl i σ H hi p;by_cases hlt:i<xs.length
  · refine .inr ⟨⟨xs,xs[i],q,by simp [hlt]⟩,Pv (i+1),λ σ' H' p'=>⟨xs.length - (i+1),by omega,rfl,hlt,p'⟩,λ x H' y=> ?_⟩;obtain ⟨pp,v,hp,rfl,rfl,hv⟩:=y;exact ⟨pp,_,rfl,SqT.of Ag,rfl,_,_,rfl,_,_,rfl,rfl,hs i v σ H pp (hv xs q) p hp⟩
  · have e:i=xs.length:=by omega
    subst e;exact .inl ⟨⟨xs,q,Nat.le_refl _⟩,hd σ H p⟩
end
inductive Dt where
  | non | bl (b:Bool) | int (i:Int) | str (z:Str) | lst (xs:List Dt) | tup (xs:List Dt)
inductive Rp (H:Hp) (F:Addr->Prop):Nat->V->Dt->Prop where
  | non {n:Nat}:Rp H F n .non .non
  | bl {n:Nat} (b:Bool):Rp H F n (.bl b) (.bl b)
  | int {n:Nat} (i:Int):Rp H F n (.int i) (.int i)
  | str {n:Nat} (z:Str):Rp H F n (.str z) (.str z)
  | lst {n:Nat} {a:Addr} {vs:List V} {ds:List Dt} (h:H a=some (.lst vs)) (f:F a) (b:vs.length<=100000) (l:vs.length=ds.length) (e:∀ (i:Nat) (v:V) (d:Dt),vs[i]?=some v->ds[i]?=some d->Rp H F n v d):Rp H F (n+1) (.ref a) (.lst ds)
  | tup {n:Nat} {a:Addr} {vs:List V} {ds:List Dt} (h:H a=some (.tup vs)) (b:vs.length<=100000) (l:vs.length=ds.length) (e:∀ (i:Nat) (v:V) (d:Dt),vs[i]?=some v->ds[i]?=some d->Rp H F n v d):Rp H F (n+1) (.ref a) (.tup ds)
theorem Rp.mono {H H':Hp} {F F':Addr->Prop} {n:Nat} {v:V} {d:Dt} (r:Rp H F n v d) (k:∀ a o,H a=some o->(∀ xs,o= .lst xs->F a)->H' a=some o) (f:∀ a,F a->F' a):Rp H' F' n v d:=by
  induction r with
  | non=>exact .non
  | bl b=>exact .bl b
  | int i=>exact .int i
  | str z=>exact .str z
  | lst h p b l e ih=>exact .lst (k _ _ h λ _ _=>p) (f _ p) b l λ i v d h1 h2=>ih i v d h1 h2
  | tup h b l e ih=>exact .tup (k _ _ h λ xs q=>by cases q) b l λ i v d h1 h2=>ih i v d h1 h2
theorem Rp.same {H H':Hp} {F:Addr->Prop} {n:Nat} {v:V} {d:Dt} (r:Rp H F n v d) (s:Same H H'):Rp H' F n v d:=r.mono (λ a o h _=>s a o h) λ _ h=>h
theorem Rp.imp {H:Hp} {F F':Addr->Prop} {n:Nat} {v:V} {d:Dt} (r:Rp H F n v d) (f:∀ a,F a->F' a):Rp H F' n v d:=r.mono (λ a o h _=>h) f
theorem Rp.up {H:Hp} {F:Addr->Prop} {n m:Nat} {v:V} {d:Dt} (r:Rp H F n v d) (h:n<=m):Rp H F m v d:=by
  induction r generalizing m with
  | non=>exact .non
  | bl b=>exact .bl b
  | int i=>exact .int i
  | str z=>exact .str z
  | lst h p b l e ih=>
    cases m with
    | zero=>exact absurd h (by omega)
    | succ m=>exact .lst ‹_› p b l λ i v d h1 h2=>ih i v d h1 h2 (by omega)
  | tup h b l e ih=>
    cases m with
    | zero=>exact absurd h (by omega)
    | succ m=>exact .tup ‹_› b l λ i v d h1 h2=>ih i v d h1 h2 (by omega)
abbrev FT:Addr->Prop:=λ _=>True
abbrev FN (H:Hp):Addr->Prop:=λ a=>H a=none
theorem Rp.any {H:Hp} {F:Addr->Prop} {n:Nat} {v:V} {d:Dt} (r:Rp H F n v d):Rp H FT n v d:=r.imp λ _ _=>trivial
theorem Rp.new {H:Hp} {F:Addr->Prop} {n:Nat} {v:V} {d:Dt} {p:Addr} {o:HO} (r:Rp H F n v d) (h:H p=none):Rp (L2.upd H p o) F n v d:=r.same λ b u e=>by rw [As (AZ e h)];exact e
noncomputable def P1 (ns:List Int):Dt:= .lst (ns.map .int)
theorem LO {H:Hp} {F:Addr->Prop} {n:Nat} {v:V} {ns:List Int} (r:Rp H F n v (P1 ns)):∃ a,v= .ref a/\H a=some (.lst (ns.map V.int))/\F a:=by
  unfold P1 at r;cases r with
  | @lst n a vs _ h f b l e=>
    refine ⟨a,rfl,?_,f⟩;rw [h];congr 2;refine List.ext_getElem (by simpa using l) λ i h1 h2=> ?_;have h2':i<ns.length:=by simpa using h2
    have:=e i vs[i] (.int ns[i]) (by simp [h1]) (by simp [h2']);cases hv:vs[i] <;> rw [hv] at this <;> cases this;simp
section
variable {t u:TS} {D:Ends} {σ:St} {H:Hp} {te ta tb tk:TE} {tt tu:TT} {g:TG} {Q:VK} {QT:Bool->Hp->Prop} {QA:List V->Hp->Prop} {i:Nat} {v x y:V} {r:R2} {tr:TA} {K:PySem.W.Frag}
theorem RH (h:t { D with nx:=u D } σ H):Vo t u D σ H:=h
theorem LF (h:D.nx σ H):PR D σ H:=h
theorem Lj (h:te σ H λ x H1=>g x σ H1 D.nx):M9 te g D σ H:=h
theorem Jk {QS:St->Hp->Prop} (h:QS (σ.set i (some v)) H):AS i v σ H QS:=h
theorem QB (e:σ[i]?=some (some v)) (h:Q v H):Lb i σ H Q:=⟨v,e,h⟩
theorem Xg (h:Q v H):tC v σ H Q:=h
theorem U3 (h:ta σ H λ x H1=>tb σ H1 λ y H2=>r x y H2 Q):tOp r ta tb σ H Q:=h
theorem S9 {ru:V->Hp->VK->Prop} (h:ta σ H λ x H1=>ru x H1 Q):tUn ru ta σ H Q:=h
theorem AR {C:Int->Int->Prop} {gg:Int->Int->V} {a b:Int} (c:C a b) (h:Q (gg a b) H):rI C gg (.int a) (.int b) H Q:=⟨a,b,rfl,rfl,c,h⟩
theorem Rz {gg:Int->Int->V} {a b:Int} (h:Q (gg a b) H):rI0 gg (.int a) (.int b) H Q:=⟨a,b,rfl,rfl,h⟩
theorem Wa {gg:Int->V} {a:Int} (h:Q (gg a) H):rU gg (.int a) H Q:=⟨a,rfl,h⟩
theorem Qk {a b:Int} (h:Q (.bl (decide (a=b))) H):rEq (.int a) (.int b) H Q:=⟨rfl,by rw [show decide (V.int a=V.int b)=decide (a=b) by rw [Bool.eq_iff_iff];simp];exact h⟩
theorem QV {a b:Int} (h:Q (.bl (!decide (a=b))) H):rNe (.int a) (.int b) H Q:=⟨rfl,by rw [show decide (V.int a=V.int b)=decide (a=b) by rw [Bool.eq_iff_iff];simp];exact h⟩
theorem QL {a b:Str} (h:Q (.bl (decide (a=b))) H):rEq (.str a) (.str b) H Q:=⟨rfl,by rw [show decide (V.str a=V.str b)=decide (a=b) by rw [Bool.eq_iff_iff];simp];exact h⟩
theorem Ql {a b:Str} (h:Q (.bl (!decide (a=b))) H):rNe (.str a) (.str b) H Q:=⟨rfl,by rw [show decide (V.str a=V.str b)=decide (a=b) by rw [Bool.eq_iff_iff];simp];exact h⟩
theorem QC {a b:Bool} (h:Q (.bl (decide (a=b))) H):rEq (.bl a) (.bl b) H Q:=⟨rfl,by rw [show decide (V.bl a=V.bl b)=decide (a=b) by rw [Bool.eq_iff_iff];simp];exact h⟩
theorem RG {a b:Bool} (h:Q (.bl (!decide (a=b))) H):rNe (.bl a) (.bl b) H Q:=⟨rfl,by rw [show decide (V.bl a=V.bl b)=decide (a=b) by rw [Bool.eq_iff_iff];simp];exact h⟩
theorem Rf (h:tt σ H λ c H1=>QT (!c) H1):T3 tt σ H QT:=h
theorem O4 (h:te σ H λ x H'=>∃ k,x= .bl k/\QT k H'):P2 te σ H QT:=h
theorem WI (h:te σ H λ x H'=>∃ k,x= .bl k/\QT k H'):tB te σ H QT:=h
theorem Um {b:Bool} {R:Bool->Prop} (h:R b):∃ k,V.bl b= .bl k/\R k:=⟨b,rfl,h⟩
theorem UR (h:tt σ H λ c H1=>if c=true then QT true H1 else tu σ H1 QT):tOr tt tu σ H QT:=h
theorem RK (h:tt σ H λ c H1=>if c=true then tu σ H1 QT else QT false H1):S3 tt tu σ H QT:=h
theorem OL (h:ta σ H λ x H1=>∃ c,x= .bl c/\if c=true then tb σ H1 Q else Q (.bl false) H1):Py ta tb σ H Q:=h
theorem OX (h:ta σ H λ x H1=>∃ c,x= .bl c/\Q (.bl (!c)) H1):Pz ta σ H Q:=h
theorem RF (h:tt σ H λ b H1=>if b=true then t D σ H1 else u D σ H1):MF tt t u D σ H:=h
theorem VH (h:tt σ H λ c H1=>if c=true then ta σ H1 Q else tb σ H1 Q):tIf tt ta tb σ H Q:=h
theorem RE (h:te σ H D.rt):U2 te D σ H:=h
theorem OJ (h:te σ H λ _ H1=>D.nx σ H1):Nx te D σ H:=h
theorem Rq (h:QA [] H):JK σ H QA:=h
theorem OF (h:te σ H λ x H1=>tr σ H1 λ xs H2=>QA (x::xs) H2):HL te tr σ H QA:=h
theorem QY (h:tr σ H λ xs H1=>xs.length<=sizeLine/\∀ p,H1 p=none->Q (.ref p) (upd H1 p (.lst xs))):Ol tr σ H Q:=h
theorem Q4 (h:tr σ H λ xs H1=>xs.length<=sizeLine/\∀ p,H1 p=none->Q (.ref p) (upd H1 p (.tup xs))):WN tr σ H Q:=h
theorem R1 {rr:List V->Hp->VK->Prop} (h:tr σ H λ vs H1=>rr vs H1 Q):tCB rr tr σ H Q:=h
theorem OB {sp:Sp} {E:XK} (h:tr σ H λ vs H1=>sp vs H1 Q E):IX sp [] E tr σ H Q:=by
  unfold IX;simpa using h
theorem Wb {rs:V->Option Int->Option Int->Hp->VK->Prop} {tl th:TO} (h:te σ H λ x H1=>tl σ H1 λ l H2=>th σ H2 λ u H3=>rs x l u H3 Q):tSl rs te tl th σ H Q:=h
theorem Oz {QO:Option Int->Hp->Prop} (h:te σ H λ x H1=>∃ i,x= .int i/\QO (some i) H1):P7 te σ H QO:=h
theorem Mm {QO:Option Int->Hp->Prop} (h:QO none H):L1 σ H QO:=h
theorem Rl {a:Int} {R:Int->Prop} (h:R a):∃ k,V.int a= .int k/\R k:=⟨a,rfl,h⟩
theorem Rg {z:Str} {lo hi:Option Int} (c:z.length<=sizeLine) (h:Q (.str (Txt.slice z lo hi)) H):UP (.str z) lo hi H Q:=⟨z,rfl,c,h⟩
theorem BQ {p:Addr} {xs:List V} {lo hi:Option Int} (c:SqL K H p xs) (h:∀ q,H q=none->Q (.ref q) (upd H q (.lst (Fn xs lo hi)))):Qg K (.ref p) lo hi H Q:=⟨p,xs,rfl,c,h⟩
theorem GT {z:Str} (c:z.length<=sizeLine) (h:Q (.int z.length) H):N0 K [.str z] H Q:=⟨_,_,rfl,⟨c,rfl⟩,h⟩
theorem Au {p:Addr} {xs:List V} (c:SqL K H p xs) (h:Q (.int xs.length) H):N0 K [.ref p] H Q:=⟨_,_,rfl, .inl ⟨xs,c,rfl⟩,h⟩
theorem Fu {p:Addr} {xs:List V} (c:SqT K H p xs) (h:Q (.int xs.length) H):N0 K [.ref p] H Q:=⟨_,_,rfl, .inr ⟨xs,c,rfl⟩,h⟩
theorem N6 {p:Addr} {ns:List Int} (c:SqL K H p (ns.map V.int)) (h:Q (.int ns.sum) H):VX K [.ref p] H Q:=⟨p,ns,rfl,c,h⟩
theorem Hk {p:Addr} {bs:List Bool} (c:SqL K H p (bs.map V.bl)) (h:Q (.bl (bs.all id)) H):WO K [.ref p] H Q:=⟨p,bs,rfl,c,h⟩
theorem AN {n:String} {ty:Value} {b:Bool} (c:TyOf K H x ty) (e:PySem.W.kitOne K ty (.type n)=some b) (h:Q (.bl b) H):P9 K [x, .ty n] H Q:=⟨x,n,ty,b,rfl,c,e,h⟩
theorem Bu {p:Addr} {xs:List V} {k:Int} (c:SqL K H p xs) (e:atI xs k=some v) (h:Q v H):QU K (.ref p) (.int k) H Q:=⟨p,xs,k,v,rfl,rfl,c,e,h⟩
theorem DE {p:Addr} {xs:List V} {k:Int} (c:SqT K H p xs) (e:atI xs k=some v) (h:Q v H):Rn K (.ref p) (.int k) H Q:=⟨p,xs,k,v,rfl,rfl,c,e,h⟩
theorem KN {z:Str} {k:Int} {c:Nat} (l:z.length<=sizeLine) (e:atI z.cps.toList k=some c) (h:Q (.str ⟨#[c]⟩) H):VC (.str z) (.int k) H Q:=⟨z,k,c,rfl,rfl,l,e,h⟩
theorem Qw {xs:List V} {B:Prop} (c:xs.length<=1000) (h:B):xs.length<=sizeLine/\B:=⟨Nat.le_trans c (by decide),h⟩
end
theorem A5 {p A B:Prop} [Decidable p] (h1:p->A) (h2:¬ p->B):if decide p=true then A else B:=by
  by_cases h:p
  · rw [if_pos (decide_eq_true h)];exact h1 h
  · rw [if_neg (λ q=>h (of_decide_eq_true q))];exact h2 h
theorem Le {p A B:Prop} [Decidable p] (h1:¬ p->A) (h2:p->B):if (!decide p)=true then A else B:=by
  by_cases h:p
  · rw [decide_eq_true h];exact Ls (h2 h)
  · rw [decide_eq_false h];exact HU (h1 h)
theorem HW {b:Bool} {A B:Prop} (h1:b=true->A) (h2:b=false->B):if b=true then A else B:=by
  cases b with
  | true=>exact HU (h1 rfl)
  | false=>exact Ls (h2 rfl)
noncomputable def tyD:Dt->String | .non=>"NoneType" | .bl _=>"bool" | .int _=>"int" | .str _=>"str" | .lst _=>"list" | .tup _=>"tuple"
noncomputable def DG:Dt->Bool | .lst _=>true | _=>false
noncomputable def B9:Dt->Bool | .tup _=>true | _=>false
noncomputable def Xm:Dt->Bool | .bl _=>true | _=>false
theorem Rp.ty {K:PySem.W.Frag} {H:Hp} {F:Addr->Prop} {n:Nat} {v:V} {d:Dt} (r:Rp H F n v d):TyOf K H v (.type (tyD d)):=by
  cases r with
  | non=>exact .non
  | bl b=>exact .bl b
  | int i=>exact .int i
  | str z=>exact .str z
  | lst h _ _ _ _=>exact .lst h
  | tup h _ _ _=>exact .tup h
theorem Mv:Dq "NoneType" "list"=some false/\Dq "bool" "list"=some false/\Dq "int" "list"=some false/\Dq "str" "list"=some false/\Dq "list" "list"=some true/\Dq "tuple" "list"=some false:=by decide +kernel
theorem GY {K:PySem.W.Frag} (d:Dt):PySem.W.kitOne K (.type (tyD d)) (.type "list")=some (DG d):=by
  obtain ⟨h1,h2,h3,h4,h5,h6⟩:=Mv;cases d with
  | non=>exact kb h1
  | bl _=>exact kb h2
  | int _=>exact kb h3
  | str _=>exact kb h4
  | lst _=>exact kb h5
  | tup _=>exact kb h6
theorem K9:Dq "NoneType" "tuple"=some false/\Dq "bool" "tuple"=some false/\Dq "int" "tuple"=some false/\Dq "str" "tuple"=some false/\Dq "list" "tuple"=some false/\Dq "tuple" "tuple"=some true:=by decide +kernel
theorem FG {K:PySem.W.Frag} (d:Dt):PySem.W.kitOne K (.type (tyD d)) (.type "tuple")=some (B9 d):=by
  obtain ⟨h1,h2,h3,h4,h5,h6⟩:=K9;cases d with
  | non=>exact kb h1
  | bl _=>exact kb h2
  | int _=>exact kb h3
  | str _=>exact kb h4
  | lst _=>exact kb h5
  | tup _=>exact kb h6
theorem MC:Dq "NoneType" "bool"=some false/\Dq "bool" "bool"=some true/\Dq "int" "bool"=some false/\Dq "str" "bool"=some false/\Dq "list" "bool"=some false/\Dq "tuple" "bool"=some false:=by decide +kernel
theorem LL {K:PySem.W.Frag} (d:Dt):PySem.W.kitOne K (.type (tyD d)) (.type "bool")=some (Xm d):=by
  obtain ⟨h1,h2,h3,h4,h5,h6⟩:=MC;cases d with
  | non=>exact kb h1
  | bl _=>exact kb h2
  | int _=>exact kb h3
  | str _=>exact kb h4
  | lst _=>exact kb h5
  | tup _=>exact kb h6
theorem UB {K:PySem.W.Frag} (d:Dt):PySem.W.kitAny K (.type (tyD d)) (["list","tuple"].map Value.type)=some (DG d||B9 d):=by
  show (match PySem.W.kitOne K (.type (tyD d)) (.type "list") with
    | some true=>some true
    | some false=>(match PySem.W.kitOne K (.type (tyD d)) (.type "tuple") with
      | some true=>some true
      | some false=>some false
      | none=>none)
    | none=>none)=_
  rw [GY,FG];cases d <;> rfl
theorem N1 {K:PySem.W.Frag} {H:Hp} {Q:VK} {x:V} {p:Addr} {ns:List String} {t:Value} {b:Bool} (hp:H p=some (.tup (ns.map V.ty))) (c:TyOf K H x t) (e:PySem.W.kitAny K t (ns.map Value.type)=some b) (h:Q (.bl b) H):MQ K [x, .ref p] H Q:=⟨x,p,ns,t,b,rfl,hp,c,e,h⟩
noncomputable def A7:Dt->List Dt | .lst ds=>ds | .tup ds=>ds | _=>[]
theorem Rp.seq {K:PySem.W.Frag} {H:Hp} {F:Addr->Prop} {n:Nat} {v:V} {d:Dt} (r:Rp H F n v d) (h:(DG d||B9 d)=true):
    ∃ m a vs,n=m+1/\v= .ref a/\SqS (B9 d) K H a vs/\vs.length=(A7 d).length/\vs.length<=100000/\∀ (i:Nat) (x:V) (e:Dt),vs[i]?=some x->(A7 d)[i]?=some e->Rp H F m x e:=by
  cases r with
  | @lst m a vs ds q f b l e=>exact ⟨m,a,vs,rfl,rfl,(show SqL K H a vs from SqL.of q),l,b,e⟩
  | @tup m a vs ds q b l e=>exact ⟨m,a,vs,rfl,rfl,(show SqT K H a vs from SqT.of q),l,b,e⟩
  | non=>cases h
  | bl _=>cases h
  | int _=>cases h
  | str _=>cases h
theorem LZ {K:PySem.W.Frag} {H:Hp} {Q:VK} {tp:Bool} {p:Addr} {xs:List V} (c:SqS tp K H p xs) (h:Q (.int xs.length) H):N0 K [.ref p] H Q:=by
  cases tp with
  | false=>exact Au c h
  | true=>exact Fu c h
theorem SqS.same {K:PySem.W.Frag} {H H':Hp} {tp:Bool} {p:Addr} {xs:List V} (c:SqS tp K H p xs) (s:Same H H'):SqS tp K H' p xs:=by
  cases tp with
  | false=>exact (show SqL K H' p xs from s.seq c)
  | true=>
    rcases (show SqT K H p xs from c) with (q | ⟨o,q⟩) | q
    · exact (show SqT K H' p xs from .inl (.inl (s _ _ q)))
    · exact (show SqT K H' p xs from .inl (.inr ⟨o,s _ _ q⟩))
    · exact (show SqT K H' p xs from .inr q)
theorem Aj {H:Hp} {p:Addr} {o:HO} (h:H p=none):Same H (upd H p o):=λ b u e=>by rw [As (AZ e h)];exact e
theorem Bc {H H':Hp} {D:Addr} {o:HO} (s:Same H H') (h:H D=none):Same H (upd H' D o):=λ b u e=>by rw [As (AZ e h)];exact s b u e
theorem Mt {v:V} {d:Dt} {H:Hp} {F:Addr->Prop} {n:Nat} (r:Rp H F n v d) (h:(DG d||B9 d)=false):QR v v=true:=by
  cases r with
  | non=>rfl
  | bl _=>rfl
  | int _=>rfl
  | str _=>rfl
  | lst _ _ _ _ _=>cases h
  | tup _ _ _ _=>cases h
theorem Os {v u:V} {d:Dt} {H:Hp} {F:Addr->Prop} {n:Nat} (r:Rp H F n v d) (r2:Rp H F n u d) (h:(DG d||B9 d)=false):v=u:=by
  cases r with
  | non=>cases r2;rfl
  | bl _=>cases r2;rfl
  | int _=>cases r2;rfl
  | str _=>cases r2;rfl
  | lst _ _ _ _ _=>cases h
  | tup _ _ _ _=>cases h
structure SrcOk (J:It) (g:TG) (σ0:St) (H:Hp) (n:Nat) (st:Nat->St):Prop where
  go:∀ i H',i<n->Same H H'->J.go i H'
  stop:∀ H',Same H H'->J.stop n H'
  yld:∀ i H' x H'' (R:St->Hp->Prop),i<n->Same H H'->J.yld i H' x H''->(∀ H3,Same H' H3->R (st i) H3)->g x σ0 H'' R
  kp:∀ i,i<n->Kp σ0 (st i)
section
variable {J:It} {g:TG} {σ0:St} {H:Hp} {n:Nat} {st:Nat->St} {tc:TT} {te:TE} {Q:VK} {D:Addr}
theorem Rp.off {H:Hp} {F:Addr->Prop} {m:Nat} {v:V} {d:Dt} {D:Addr} {xs:List V} {o:HO} (r:Rp H F m v d) (hD:H D=some (.lst xs)) (hF:¬ F D):Rp (L2.upd H D o) F m v d:=by
  refine r.mono (λ a u e q=> ?_) λ _ h=>h;have n:a≠D:=λ z=>by
    subst z;rw [hD] at e;cases e;exact hF (q _ rfl)
  rw [As n];exact e
theorem IT {m:Nat} {p:Nat->Bool} {G:Nat->Dt} (S:SrcOk J g σ0 H n st) (hD:H D=none) (hn:n<=100000)
    (ht:∀ i H' (R:Bool->Hp->Prop),i<n->Same H H'->(∀ H3,Same H' H3->R (p i) H3)->tc (st i) H' R)
    (he:∀ i H' (R:VK),i<n->p i=true->Same H H'->(∀ H3 y,Same H' H3->Rp H3 (FN H') m y (G i)->R y H3)->te (st i) H' R)
    (hd:∀ H' ys,Same H H'->H' D=some (.lst ys)->Rp H' (FN H) (m+1) (.ref D) (.lst (((List.range n).filter p).map G))->Q (.ref D) H'):
    DW J σ0 g tc te Q H D:=by
  refine ⟨λ i k ys H'=>k=n - i/\i<=n/\Same H H'/\H' D=some (.lst ys)/\ys.length=(((List.range i).filter p).map G).length/\∀ (j:Nat) (y:V) (d:Dt),ys[j]?=some y->(((List.range i).filter p).map G)[j]?=some d->Rp H' (λ a=>H a=none/\a≠D) m y d,
    ⟨_,rfl,Nat.zero_le _,Bc (Same.refl _) hD,Ag,rfl,λ j y d q=>by simp at q⟩,?_⟩
  rintro i k ys H1 ⟨rfl,hi,s1,hl,len,el⟩;have bnd:∀ i,(((List.range i).filter p).map G).length<=i:=λ i=>by
    rw [List.length_map];exact Nat.le_trans (List.length_filter_le _ _) (by simp)
  by_cases hlt:i<n
  · refine .inr ⟨S.go i H1 hlt s1,λ ys' H'=>Same H H'/\H' D=some (.lst ys')/\ys'.length=(((List.range (i+1)).filter p).map G).length/\∀ (j:Nat) (y:V) (d:Dt),ys'[j]?=some y->(((List.range (i+1)).filter p).map G)[j]?=some d->Rp H' (λ a=>H a=none/\a≠D) m y d,
      λ ys' H' q=>⟨n - (i+1),by omega,rfl,hlt,q⟩,λ x H2 y=> ?_⟩
    refine S.yld i H1 x H2 _ hlt s1 y λ H3 s3=>⟨S.kp i hlt,?_⟩;refine ht i H3 _ hlt (s1.trans s3) λ H4 s4=> ?_;have hl4:H4 D=some (.lst ys):=s4 _ _ (s3 _ _ hl);have s14:Same H H4:=s1.trans (s3.trans s4);cases hp:p i with
    | false=>
      refine Ls ⟨s14,hl4,?_,?_⟩
      · rw [List.range_succ,List.filter_append,List.filter_cons,hp];simpa using len
      · intro j y d h1 h2;have e:((List.range (i+1)).filter p).map G=((List.range i).filter p).map G:=by
          rw [List.range_succ,List.filter_append,List.filter_cons,hp];simp
        rw [e] at h2;exact (el j y d h1 h2).same (s3.trans s4)
    | true=>
      refine HU ?_;refine he i H4 _ hlt hp s14 λ H5 y s5 ry=> ?_;have hl5:H5 D=some (.lst ys):=s5 _ _ hl4;have e:((List.range (i+1)).filter p).map G=((List.range i).filter p).map G++[G i]:=by
        rw [List.range_succ,List.filter_append,List.filter_cons,hp];simp
      refine ⟨hl5,?_,?_,Ag,?_,?_⟩
      · have:=bnd i;exact Nat.lt_of_le_of_lt (by omega:ys.length<=100000) (by decide)
      · exact Bc (s14.trans s5) hD
      · rw [e,List.length_append,List.length_append,len];rfl
      · intro j z d h1 h2;rw [e] at h2;have nF:¬ (H D=none/\D≠D):=λ q=>q.2 rfl;by_cases hj:j<ys.length
        · rw [List.getElem?_append_left hj] at h1;rw [List.getElem?_append_left (by omega)] at h2;exact ((el j z d h1 h2).same (s3.trans (s4.trans s5))).off hl5 nF
        · have ej:j=ys.length:=by
            have:=(List.getElem?_eq_some_iff.mp h1).1;rw [List.length_append] at this;have:([y]:List V).length=1:=rfl;omega
          subst ej;rw [List.getElem?_append_right (Nat.le_refl _),Nat.sub_self] at h1;rw [len,List.getElem?_append_right (Nat.le_refl _),Nat.sub_self] at h2;cases h1;cases h2;refine (ry.imp (F':=λ a=>H a=none/\a≠D) λ a ha=>⟨s14.free ha,λ q=> ?_⟩).off hl5 nF;subst q;rw [show H4 a=none from ha] at hl4;cases hl4
  · have e:i=n:=by omega
    subst e;refine .inl ⟨S.stop H1 s1,hd H1 ys s1 hl (.lst hl hD ?_ len λ j y d h1 h2=>(el j y d h1 h2).imp λ a q=>q.1)⟩;have:=bnd i;omega
theorem AL {m:Nat} {G:Nat->Dt} (S:SrcOk J g σ0 H n st) (hD:H D=none) (hn:n<=100000)
    (he:∀ i H' (R:VK),i<n->Same H H'->(∀ H3 y,Same H' H3->Rp H3 (FN H') m y (G i)->R y H3)->te (st i) H' R)
    (hd:∀ H' ys,Same H H'->H' D=some (.lst ys)->Rp H' (FN H) (m+1) (.ref D) (.lst ((List.range n).map G))->Q (.ref D) H'):
    DW J σ0 g Mr te Q H D:=by
  refine IT (p:=λ _=>true) (m:=m) (G:=G) S hD hn (λ i H' R _ _ k=>k H' (Same.refl _)) (λ i H' R hi _ s k=>he i H' R hi s k) λ H' ys s hl r=>hd H' ys s hl ?_;have e:(List.range n).filter (λ _=>true)=List.range n:=by simp
  rw [e] at r;exact r
variable {K:PySem.W.Frag} {a b:Addr} {xs zs:List V}
theorem AH (h:SqL K H a xs) (h0:σ0[0]?=some none):SrcOk (Itl K a) (AS 0) σ0 H xs.length (λ i=>σ0.set 0 (some (xs.getD i .non))) where
  go:=λ i H' hi s=>⟨xs,xs[i],s.seq h,by simp [hi]⟩
  stop:=λ H' s=>⟨xs,s.seq h,Nat.le_refl _⟩
  yld:=λ i H' x H'' R hi s y k=>by
    obtain ⟨e,hv⟩:=y;subst e;have e:x=xs.getD i .non:=by
      have:=hv xs (s.seq h);rw [List.getD_eq_getElem?_getD,this];rfl
    subst e;exact k _ (Same.refl _)
  kp:=λ i hi=>(Kp.refl _).set h0
theorem EA (h:SqT K H a xs) (h0:σ0[0]?=some none):SrcOk (Itt K a) (AS 0) σ0 H xs.length (λ i=>σ0.set 0 (some (xs.getD i .non))) where
  go:=λ i H' hi s=>⟨xs,xs[i],(SqS.same (tp:=true) h s),by simp [hi]⟩
  stop:=λ H' s=>⟨xs,(SqS.same (tp:=true) h s),Nat.le_refl _⟩
  yld:=λ i H' x H'' R hi s y k=>by
    obtain ⟨e,hv⟩:=y;subst e;have e:x=xs.getD i .non:=by
      have:=hv xs (SqS.same (tp:=true) h s);rw [List.getD_eq_getElem?_getD,this];rfl
    subst e;exact k _ (Same.refl _)
  kp:=λ i hi=>(Kp.refl _).set h0
theorem IW {lo:Int} {n:Nat} (h0:σ0[0]?=some none):SrcOk (Itr lo n) (AS 0) σ0 H n (λ i=>σ0.set 0 (some (.int (lo+i)))) where
  go:=λ i H' hi s=>hi
  stop:=λ H' s=>Nat.le_refl _
  yld:=λ i H' x H'' R hi s y k=>by
    obtain ⟨e,hv⟩:=y;subst e hv;exact k _ (Same.refl _)
  kp:=λ i hi=>(Kp.refl _).set h0
theorem Pg {z:Str} (h0:σ0[0]?=some none):SrcOk (Its z) (AS 0) σ0 H z.cps.size (λ i=>σ0.set 0 (some (.str ⟨#[z.cps.toList.getD i 0]⟩))) where
  go:=λ i H' hi s=>hi
  stop:=λ H' s=>Nat.le_refl _
  yld:=λ i H' x H'' R hi s y k=>by
    obtain ⟨e,c,hc,hv⟩:=y;subst e hv;have e:c=z.cps.toList.getD i 0:=by
      rw [List.getD_eq_getElem?_getD,show z.cps.toList[i]?=some c by simpa using hc];rfl
    rw [e];exact k _ (Same.refl _)
  kp:=λ i hi=>(Kp.refl _).set h0
theorem NK (h:SqL K H a xs) (h0:σ0[0]?=some none) (h1:σ0[1]?=some none):SrcOk (Ite K a) (HI K 2 (BN (AS 0) (BN (AS 1) HR))) σ0 H xs.length (λ i=>(σ0.set 0 (some (.int i))).set 1 (some (xs.getD i .non))) where
  go:=λ i H' hi s=>⟨xs,xs[i],s.seq h,by simp [hi]⟩
  stop:=λ H' s=>⟨xs,s.seq h,Nat.le_refl _⟩
  yld:=λ i H' x H'' R hi s y k=>by
    obtain ⟨p,v,hp,rfl,rfl,hv⟩:=y;have e:v=xs.getD i .non:=by
      have:=hv xs (s.seq h);rw [List.getD_eq_getElem?_getD,this];rfl
    subst e;exact ⟨p,_,rfl,SqT.of Ag,rfl,_,_,rfl,_,_,rfl,rfl,k _ (Aj hp)⟩
  kp:=λ i hi=>((Kp.refl _).set h0).set h1
end
theorem Bq {α β:Type} (f:α->β) (xs:List α) (d:α):(List.range xs.length).map (λ i=>f (xs.getD i d))=xs.map f:=by
  refine List.ext_getElem (by simp) λ i h1 h2=> ?_;have hi:i<xs.length:=by simpa using h2
  simp [List.getD_eq_getElem?_getD,hi]
theorem NZ (a b c:Int) (hc:c≠0):0<=Builtin.Range.rangeSize a b c/\Builtin.Range.rangeSize a b c<=(b - a).natAbs:=by
  unfold Builtin.Range.rangeSize;split
  · rename_i h
    split
    · rename_i h2
      have h3:0<=(b - a - 1) / c:=Int.ediv_nonneg (by omega) (by omega);have h4:(b - a - 1) / c<=b - a - 1:=Int.ediv_le_self _ (by omega);omega
    · omega
  · rename_i h
    split
    · rename_i h2
      have h3:0<=(a - b - 1) / (-c):=Int.ediv_nonneg (by omega) (by omega);have h4:(a - b - 1) / (-c)<=a - b - 1:=Int.ediv_le_self _ (by omega);omega
    · omega
theorem O1 {a b c:Int} (ha: -(2 ^ 40)<=a/\a<2 ^ 40) (hb: -(2 ^ 40)<=b/\b<2 ^ 40) (hc: -(2 ^ 20)<=c/\c<2 ^ 20) (h0:c≠0):Builtin.Range.small a b c=true:=by
  have h:=NZ a b c h0;unfold Builtin.Range.small;simp only [Builtin.Range.rangeFitsLong,Bool.and_eq_true,Bool.or_eq_true,decide_eq_true_eq,beq_iff_eq];generalize Builtin.Range.rangeSize a b c=n at h;have hn:(b - a).natAbs<2 ^ 42:=by omega
  refine ⟨⟨⟨⟨by omega,by omega⟩,by omega⟩,by omega⟩, .inr ?_⟩;split <;> rw [Bool.and_eq_true,decide_eq_true_eq,decide_eq_true_eq] <;> omega
noncomputable def Itc (lo c:Int) (n:Nat):It:=⟨λ i _=>i<n,λ i H x H'=>H'=H/\x= .int (lo+i*c),λ i _=>n<=i⟩
theorem Kr {P:Program} {w:World} {K:PySem.W.Frag} {tg:Expr} (it:Addr) (lo c:Int) (n:Nat):Turn P w K tg (Itc lo c n) [it] it (λ i h=>IsRangeIter h it (lo+(i:Nat)*c) ((n:Int) - (i:Nat)) c) where
  mem:=by simp
  obj:=λ i h st b hb=>by
    have e:b=it:=by simpa using hb
    subst e;exact ⟨_,st,λ v z=>by cases (show Data.fields _=Data.cell v from z)⟩
  keep:=λ i h h' st k=>k it (by simp) _ st
  item:=by
    intro X hP hw hK hc i pins s σ H E I hf st hg;subst hP hw hK;obtain ⟨f0,f1,f2,f3,f4,f5⟩:=hf it (by simp);have W:=Walks.range (prog:=X.prog) (w:=X.w) (I.ok.hd hc) it lo c n;refine W.item i s _ _ hg st λ v h' tk hv st' kk=> ?_;obtain ⟨t,rfl⟩:=hv;have I1:Inv X pins σ H { s with heap:=h',toks:=tk }:=I.turned (λ b o hb e=>kk b o (by simpa using hb) e) f0 f1 f3 f4 f5;exact ⟨_,rfl,J6 (s:={ s with heap:=h',toks:=tk }) (n:="range_iterator") st' rfl rfl (by decide) ⟨.int (lo+i*c),H,I1,⟨t,rfl⟩,⟨rfl,rfl⟩,st',λ b hb=>(hf b hb).1⟩⟩
  done:=by
    intro X hP hw hK hc i pins s σ H E I hf st hg;subst hP hw hK;obtain ⟨f0,f1,f2,f3,f4,f5⟩:=hf it (by simp);exact wpAny_pyNext_range_end (I.ok.hd hc) st (by have:n<=i:=hg;omega) λ h' eb=>⟨rfl,I.turned (t':=s.toks) (λ b o hb e=>eb b o hb e) f0 f1 f3 f4 f5⟩
  self:=λ _ _ _ _ _ st h=>wpAny_pyIter_rangeiter st h
section
variable {X:Cx} {tg:Expr}
def PQ (ta:TA):TI:=λ σ H R=>ta σ H λ vs H1=>∃ i j c:Int,vs=[.int i, .int j, .int c]/\(-(2 ^ 40)<=i/\i<2 ^ 40)/\(-(2 ^ 40)<=j/\j<2 ^ 40)/\(-(2 ^ 20)<=c/\c<2 ^ 20)/\c≠0/\R (Itc i c (Builtin.Range.rangeSize i j c).toNat) H1
theorem Mf {a b c:Expr} {ta:TA} {p pos:Pos} (hg:Gl X "range") (hm:X.mg "range"=none) (ha:PA X [a,b,c] ta) (hs:starEach [a,b,c] X.env=[(false,eval a X.env),(false,eval b X.env),(false,eval c X.env)]:=by rfl)
    (hs2:starEach [b,c] X.env=[(false,eval b X.env),(false,eval c X.env)]:=by rfl):PI X tg (.Call (.Name "range" p) [a,b,c] [] pos) (PQ ta):=by
  intro pins s σ H R I h;refine Call_ (Di I hg hm boot_range (PyProof.Rows.callWith_type1 (thn (ha pos pins s σ H _ I h) λ us s1 ⟨vs,H1,I1,r1,q1⟩=> ?_) (by rw [hs,hs2]) (by rw [hs2];rfl)));obtain ⟨i,j,k,e,h1,h2,h3,h0,q⟩:=q1;subst e;cases r1 with
  | cons r rr=>
    cases rr with
    | cons r' rr=>
      cases rr with
      | cons r'' rr=>
        cases rr;obtain ⟨t,rfl⟩:=r;obtain ⟨t',rfl⟩:=r';obtain ⟨t'',rfl⟩:=r'';refine call_range_3 h0 ?_ (.inl (PyProof.noPylong_small (by omega)));refine wpAny_pyIter_range (IsRange.new ..) (O1 h1 h2 h3 h0) ?_;have I2:Inv X pins σ H1 { s1 with heap:=s1.heap.push { cls:= .type "range",data:= .fields #[.int i t, .int j t', .int k t''] },toks:=s1.toks }:=I1.kept λ b o e=>Heap.get?_push_of_some _ e;refine ⟨(s1.heap.push { cls:= .type "range",data:= .fields #[.int i t, .int j t', .int k t''] }).objs.size,[(s1.heap.push { cls:= .type "range",data:= .fields #[.int i t, .int j t', .int k t''] }).objs.size],_,_,H1,rfl,
          I2.kept (t':=s1.toks) λ b o e=>Heap.get?_push_of_some _ e,Kr _ i k (Builtin.Range.rangeSize i j k).toNat,?_,λ b hb=> ?_,q⟩
        · have e1:i+((0:Nat):Int)*k=i:=by simp
          have e2:(((Builtin.Range.rangeSize i j k).toNat:Nat):Int) - ((0:Nat):Int)=Builtin.Range.rangeSize i j k:=by have:=(NZ i j k h0).1;omega
          show IsRangeIter _ _ (i+((0:Nat):Int)*k) ((((Builtin.Range.rangeSize i j k).toNat:Nat):Int) - ((0:Nat):Int)) k;rw [e1,e2];exact Heap.get?_push_size _ rfl
        · have e:b=(s1.heap.push { cls:= .type "range",data:= .fields #[.int i t, .int j t', .int k t''] }).objs.size:=by simpa using hb
          subst e;exact I2.fpOk (Nat.le_refl _) (I2.hok.fresh (Nat.le_refl _))
theorem Lk {lo c:Int} {n:Nat} {σ0:St} {H:Hp} (h0:σ0[0]?=some none):SrcOk (Itc lo c n) (AS 0) σ0 H n (λ i=>σ0.set 0 (some (.int (lo+i*c)))) where
  go:=λ i H' hi s=>hi
  stop:=λ H' s=>Nat.le_refl _
  yld:=λ i H' x H'' R hi s y k=>by
    obtain ⟨e,hv⟩:=y;subst e hv;exact k _ (Same.refl _)
  kp:=λ i hi=>(Kp.refl _).set h0
def VZ:List V->Hp->VK->Prop:=λ xs H Q=>∃ b:Bool,xs=[.bl b]/\Q (.int (if b=true then 1 else 0)) H
end
theorem NV {X:Cx}:BG X (.type "int") VZ:=by
  intro pins s σ H xs us Q I r h;obtain ⟨b,rfl,q⟩:=h;exact Mq pins s σ H _ us Q I r (.inr ⟨b,rfl,q⟩)
section
variable {X:Cx} {K:PySem.W.Frag} {e st:Expr} {te ts:TE} {pos p2:Pos}
end
end L2
namespace MM
theorem bit_div (m e:Nat):m / 2 ^ e%2=(m.testBit e).toNat:=by
  rw [Nat.testBit_eq_decide_div_mod_eq];have:m / 2 ^ e%2<2:=Nat.mod_lt _ (by decide);by_cases h:m / 2 ^ e%2=1
  · simp [h]
  · have:m / 2 ^ e%2=0:=by omega
    simp [this]
end MM
namespace L2
open PySem PySem.Spec PyProof.Rows
section
variable {X:Cx}
theorem DH {x:Str} {i:Int} {pos:Pos} (h:∃ t,X.mg x=some (.int i t)) (hg:Gl X x:=by rfl) (hd:(x == ("__debug__":Str))=false:=by decide):PE X (.Name x pos) (tC (.int i)):=by
  obtain ⟨t,e⟩:=h;exact Jn hg e ⟨t,rfl⟩ hd
theorem B8 {x z:Str} {pos:Pos} (h:∃ t,X.mg x=some (.str z t)) (hg:Gl X x:=by rfl) (hd:(x == ("__debug__":Str))=false:=by decide):PE X (.Name x pos) (tC (.str z)):=by
  obtain ⟨t,e⟩:=h;exact Jn hg e ⟨t,rfl⟩ hd
end
section
variable {H:Hp} {Q:VK} {σ:St} {td ty tv:TE} {D:Ends} {a:Addr} {kvs:List (Key × V)}
theorem Pj (h:td σ H λ x H1=>ty σ H1 λ y H2=>∃ a v,x= .ref a/\DGet H2 a y (some v)/\Q v H2):PH td ty σ H Q:=h
theorem Pf (h:tv σ H λ v H1=>td σ H1 λ x H2=>ty σ H2 λ y H3=>∃ a H4,x= .ref a/\DPut H3 a y v H4/\D.nx σ H4):PB td ty tv D σ H:=h
theorem Ow {R:List (V × V)->Hp->Prop} (h:R [] H):E9 [] σ H R:=h
theorem Kv {tk tw:TE} {r:List (TE × TE)} {R:List (V × V)->Hp->Prop} (h:tk σ H λ x H1=>tw σ H1 λ y H2=>E9 r σ H2 λ ps H3=>R ((x,y)::ps) H3):E9 ((tk,tw)::r) σ H R:=h
end
theorem Room.units1 {k:Nat} {A:Around} (r:Room k A):A.units+1<cLine:=by have:=r.un;omega
section
variable {H:Hp} {Q:VK} {σ:St} {K:PySem.W.Frag} {to:TE} {t:TA} {r:V->List V->Hp->VK->Prop} {T:String} {l p q:Addr} {xs ys:List V} {y:V}
theorem Qo (h:to σ H λ x H1=>tyV K T x H1/\r x [] H1 Q):Qy K T r to σ H Q:=h
theorem UW (h:to σ H λ x H1=>tyV K T x H1/\t σ H1 λ xs H2=>r x xs H2 Q):tBM K T r to t σ H Q:=h
theorem tyL {B:Prop} (c:SqL K H l xs) (h:B):tyV K "list" (.ref l) H/\B:=⟨.inl ⟨rfl,xs,c⟩,h⟩
theorem tyS {B:Prop} {z:Str} (h:B):tyV K "str" (.str z) H/\B:=⟨rfl,h⟩
theorem BC (c:H l=some (.lst xs)) (b:xs.length<16777216) (h:Q .non (upd H l (.lst (xs++[y])))):rAppend (.ref l) [y] H Q:=⟨l,xs,y,rfl,rfl,c,by rw [sizeLine_eq];exact b,h⟩
theorem NO (c:H l=some (.lst xs)) (d:H p=some (.lst ys)) (b:xs.length+ys.length<=16777216) (h:Q .non (upd H l (.lst (xs++ys)))):rExtend (.ref l) [.ref p] H Q:=⟨l,p,xs,ys,rfl,rfl,c,d,by rw [sizeLine_eq];exact b,h⟩
theorem F3 (c:SqL K H l xs) (d:SqL K H p ys) (b:xs.length+ys.length<=16777216) (h:∀ q,H q=none->Q (.ref q) (upd H q (.lst (xs++ys)))):IS K (.ref l) (.ref p) H Q:=⟨l,p,xs,ys,rfl,rfl,c,d,by rw [sizeLine_eq];exact b,h⟩
theorem JO {k:Int} (c:H l=some (.lst xs)) (b1:0<=k) (b2:k<=100000) (b3:xs.length<=100) (h:∀ q,H q=none->Q (.ref q) (upd H q (.lst (List.replicate k.toNat xs).flatten))):Vx (.ref l) (.int k) H Q:=
  ⟨l,k,xs,rfl,rfl,c,by omega,by omega,by
    rw [sizeLine_eq];have h1:k.toNat<=100000:=by omega
    exact Nat.le_trans (Nat.mul_le_mul b3 h1) (by decide),h⟩
theorem OI {as bs:List Int} (c:SqL K H l (as.map V.int)) (d:SqL K H p (bs.map V.int)) (h:Q (.bl (decide (as=bs))) H):JH K false (.ref l) (.ref p) H Q:=
  ⟨l,p,_,_,rfl,rfl,c,d,Kt as,Kt bs,by rw [Oc];exact h⟩
theorem IH {z:Addr} (c:SqL K H z xs) (h:∀ q,H q=none->Q (.ref q) (upd H q (.lst xs))):GQ K [.ref z] H Q:=⟨z,xs,rfl, .inl c,h⟩
theorem BP {z:Addr} (c:SqT K H z xs) (h:∀ q,H q=none->Q (.ref q) (upd H q (.lst xs))):GQ K [.ref z] H Q:=⟨z,xs,rfl, .inr c,h⟩
theorem B1 {z:Addr} (c:SqL K H z xs) (h:∀ q,H q=none->Q (.ref q) (upd H q (.tup xs))):Kq K [.ref z] H Q:=⟨z,xs,rfl, .inl ⟨c,h⟩⟩
end
end L2
namespace L2
open PySem
open Sem (wp)
open AutoSeq1 (wpAny_loadPart')
section
variable {prog:Program} {w:World} {A:Around} {E:Value->Shared->Prop} {s:Shared}
theorem Kd {T newId:String} {Bn:Builtin} {v:Value} {x:Str} {u:Value} {Q:Value->Shared->Prop} (ft:TypeCalled T newId "object.__init__") (hne:(some newId != some "object.__new__")=true)
    (hct:checkTypeCall T ⟨[v],[(x,u)]⟩=pure ()) (hcn:checkBuiltinCall newId ⟨[.type T,v],[(x,u)]⟩=pure ()) (hok:∀ obj,argsOk "object.__init__" ⟨[obj,v],[(x,u)]⟩) (entryN:entryFor table newId=some Bn)
    (g:wpAny (model prog w) A.in1.in1 (Bn ⟨[.type T,v],[(x,u)]⟩) (λ fin s1=>∃ obj,fin= .done (.ret obj)/\s1.TypeIs obj T/\Q obj s1) E s):wpAny (model prog w) A (call (.type T) [v] [(x,u)]) Q E s:=by
  obtain ⟨c,tl,hmro⟩:=ft.mro;have hmade:=ft.made;have hsub:=ft.sub;refine wpAny_call (codeAny_of_tree ?_);show wpAny _ _ (callAny (.type T) _) _ _ _;refine wpAny_pure ⟨Code.quiet_builtin _ (by decide +kernel),codeAny_builtin F.entry_type_call ?_⟩;rw [Around.under_plain (weight_type_call_type T [v] [(x,u)]) (units_type_call_type T [v] [(x,u)])];have h1:=ft.notType;have h2:=ft.canCreate
  repeat (any_goals (first | assumption | wp_step))
  refine codeAny_call_builtin ft.plain entryN (wpAny_of_eq hcn (wpAny_mono g (λ fin s1 q=> ?_) λ _ _ q=>q));obtain ⟨obj,rfl,hT,q⟩:=q;have hli:=ft.init.lookup;have hbi:=ft.init.bind obj;show wpAny _ _ _ _ _ _
  repeat (any_goals (first | assumption | wp_step))
  refine codeAny_call_builtin ft.init.plain F.entry_object_init (ft.init.check _ _ _ _ _ _ _ _ hT (hok obj) ?_)
  repeat (any_goals (first | assumption | wp_step))
  trace_state
theorem JY {v:Value} {t:Tok} {Q:Value->Shared->Prop}
    (h:wpAny (model prog w) A (pyIter v) (λ itv s1=>Q (.ref s1.heap.objs.size) { s1 with heap:=s1.heap.push { cls:= .type "enumerate",data:= .fields #[.none, .bool false,itv,rawInt 1, .none, .none] } }) E s):
    wpAny (model prog w) A (Builtin.«enumerate.__new__» ⟨[.type "enumerate",v],[("start", .int 1 t)]⟩) (λ fin s1=>∃ obj,fin= .done (.ret obj)/\Q obj s1) E s:=by
  have hsub:=sub_enumerate;have hit:∀ {R:Value->Shared->Prop},(∀ itv s1,Q (.ref s1.heap.objs.size) { s1 with heap:=s1.heap.push { cls:= .type "enumerate",data:= .fields #[.none, .bool false,itv,rawInt 1, .none, .none] } }->R itv s1)->wpAny (model prog w) A (pyIter v) R E s:=λ k=>wpAny_mono h k λ _ _ q=>q;unfold Builtin.«enumerate.__new__»
  wp_walk
  refine wpAny_stack_any λ st=>wpAny_pure ?_;split
  · rename_i c _ _ _ _ _
    cases (c == Value.type "enumerate")
    · wp_walk using hit
      intro itv s1 q
      wp_walk
      exact ⟨_,rfl,q⟩
    · wp_walk using hit
      intro itv s1 q
      wp_walk
      exact ⟨_,rfl,q⟩
  · wp_walk using hit
    intro itv s1 q
    wp_walk
    exact ⟨_,rfl,q⟩
theorem Lv {v:Value} {t:Tok} {Q:Value->Shared->Prop}
    (h:wpAny (model prog w) A.in1.in1 (pyIter v) (λ itv s1=>∃ it,itv= .ref it/\∀ h',IsEnum h' s1.heap.objs.size it 1 .none->(∀ b o,s1.heap.get? b=some o->h'.get? b=some o)->h'.objs.size=s1.heap.objs.size+1->Q (.ref s1.heap.objs.size) { s1 with heap:=h' }) E s):
    wpAny (model prog w) A (call (.type "enumerate") [v] [("start", .int 1 t)]) Q E s:=by
  refine Kd F.called_enumerate (by decide) (by kernel_rfl) (by kernel_rfl) (λ obj=>by unfold argsOk;kernel_rfl) F.entry_enumerate_new (JY (wpAny_mono h (λ itv s1 q=> ?_) λ _ _ q=>q));obtain ⟨it,rfl,q⟩:=q;refine ⟨⟨_,Heap.get?_push_size _ rfl,rfl⟩,q _ (Heap.get?_push_size _ rfl) (λ b o e=>Heap.get?_push_of_some _ e) (Heap.size_push ..)⟩
end
theorem RI {prog:Program} {w:World} {A:Around} {it:Addr} {fp:List Addr} {n:Nat} {Pv:Nat->Value->Prop} {St:Nat->Heap->Prop} (k:Nat) (D:Draws prog w A it fp n Pv St):
    Draws prog w A it fp (n+k) (λ i v=>∃ j,i=j+k/\Pv j v) (λ i h=>∃ j,i=j+k/\St j h) where
  live:=λ i h ⟨j,_,st⟩=>D.live j h st
  frame:=λ i h h' ⟨j,e,st⟩ q=>⟨j,e,D.frame j h h' st q⟩
  item:=λ i s Q E hi ⟨j,e,st⟩ hQ=>D.item j s Q E (by omega) st λ x h' tk p st' sb=>hQ x h' tk ⟨j,e,p⟩ ⟨j+1,by omega,st'⟩ sb
  done:=λ s Q E ⟨j,e,st⟩ hE=>D.done s Q E (by
    have q:j=n:=by omega
    rw [q] at st;exact st) hE
theorem Ka {M:Model} {A:Around} {E:Value->Shared->Prop} {s:Shared} {pos:Pos} {T:String} {args:List (Bool × Sem Value)} {kws:List (Option Str × Sem Value)} {Q:Value->Shared->Prop}
    (hp:args.any (·.1)=false) (hk:kws.any (·.1.isNone)=false) (h:wpAny M A (evalArgs (.type T) true args kws) (λ a s1=>wpAny M A (call (.type T) a.pos a.kw) Q E s1) E s):wpAny M A (callWith pos (.type T) [] args kws) Q E s:=by
  unfold callWith;refine wpAny_bind (wpAny_holding (wpAny_mono h (λ a s1 h1=>wpAny_bind (wpAny_standAt ?_)) λ _ _ q=>q));simp only [hp,hk,Bool.or_false];refine wpAny_bind (wpAny_pure ?_);refine wpAny_bind (wpAny_mono h1 (λ r s2 hr=> ?_) λ _ _ q=>q);exact wpAny_bind (wpAny_holding (wpAny_point (wpAny_pure hr)))
end L2
namespace L2
open PySem PySem.Spec PyProof.Rows
theorem Ra {prog:Program} {w:World} {A:Around} (hh:A.handled=none) (tp:Bool) (it l:Addr) (hne:l≠it) (items:Array Value):
    Draws prog w A it [it,l] items.size (λ i v=>items[i]?=some v) (λ i h=>BE tp h it l i/\BM tp h l items) where
  live:=λ _ _ st=>let ⟨o,e,_⟩:=BD st.1;⟨o,e⟩
  frame:=λ _ _ _ st hk=>⟨AE st.1 λ o e=>hk it (by simp) o e,Cy st.2 λ o e=>hk l (by simp) o e⟩
  item:=λ i s Q E hi st hQ=>Ff st.1 st.2 (x:=items[i]) (by simp [hi]) λ h' hit sb=>hQ _ h' s.toks (by simp [hi]) ⟨hit,Cy st.2 λ o e=>(sb.2 l hne).trans e⟩ sb
  done:=λ s Q E st hE=>GS hh st.1 st.2 (by simp) hE
noncomputable def Pe (tp:Bool) (K:PySem.W.Frag) (a:Addr):It:=
  ⟨λ i H=>∃ xs x,SqS tp K H a xs/\xs[i]?=some x,λ i H v H'=>∃ p x,H p=none/\v= .ref p/\H'=upd H p (.tup [.int ((i+1:Nat):Int),x])/\∀ xs,SqS tp K H a xs->xs[i]?=some x,λ i H=>∃ xs,SqS tp K H a xs/\xs.length<=i⟩
theorem Li {P:Program} {w:World} {K:PySem.W.Frag} {elts:List Expr} {k:Nat} {pos:Pos} (tp:Bool) (a e it:Addr) (hne:e≠it):
    Turn P w K (.Tuple elts k pos) (Pe tp K a) [e,it] e (λ i h=>(∃ old,IsEnum h e it ((i+1:Nat):Int) old)/\BE tp h it a i) where
  mem:=by simp
  obj:=λ i h st b hb=>by
    obtain ⟨⟨old,he⟩,hi⟩:=st;obtain ⟨o,eo,d⟩:=BD hi;rcases List.mem_cons.mp hb with z | z
    · subst z;exact ⟨_,he,λ v z=>by cases (show Data.fields _=Data.cell v from z)⟩
    · have z:b=it:=by simpa using z
      subst z;exact ⟨o,eo,λ v z=>by rw [d] at z;cases z⟩
  keep:=λ i h h' st kp=>by
    obtain ⟨⟨old,he⟩,hi⟩:=st;exact ⟨⟨old,kp e (by simp) _ he⟩,AE hi λ o z=>kp it (by simp) o z⟩
  item:=by
    intro X hP hw hK hc i pins s σ H E I hf st hg;subst hP hw hK;obtain ⟨xs,x,hq,hx⟩:=hg;obtain ⟨its,rv,p⟩:=Cc I hq;obtain ⟨u,hu,ru⟩:=rv.get hx;obtain ⟨⟨old,he⟩,hi⟩:=st;obtain ⟨oi,ei,di⟩:=BD hi;obtain ⟨oa,na,ea,da⟩:=EG p;have hel:e<s.heap.objs.size:=Heap.lt_size he;have hil:it<s.heap.objs.size:=Heap.lt_size ei;have nia:a≠it:=λ z=>by
      subst z;rw [ei] at ea;cases ea;rw [di] at da;cases da
    have nea:e≠a:=λ z=>by
      subst z;rw [show s.heap.get? e=_ from he] at ea;cases ea;cases (show Data.fields _=Data.seq _ _ from da)
    have hlt:i<its.toArray.size:=by
      have:=(List.getElem?_eq_some_iff.mp hu).1;simpa using this
    have D:=RI 1 (Ra (prog:=X.prog) (w:=X.w) (A:=X.A.in1) (I.ok.hd hc) tp it a nia its.toArray);refine wpAny_pyNext_enum_itemD (i:=i+1) D he ⟨i,rfl,hi,p⟩ (by omega) hne (by simp [hne,nea]) λ v h' tk pv ho st' hT hsz hk=> ?_;obtain ⟨j,ej,ev⟩:=pv;obtain ⟨j2,ej2,hi',p'⟩:=st';have ej:j=i:=by omega
    have ej2:j2=i+1:=by omega
    subst ej ej2;have ev:v=u:=by
      rw [show its.toArray[j]?=some u by simpa using hu] at ev;exact (Option.some.inj ev).symm
    subst ev;have I0:=I.laid (h':=s.heap.push { cls:= .type "tuple",data:= .seq #[.int ((j+1:Nat):Int) tk,v] }) (a:=s.heap.objs.size) (o:= .tup [.int ((j+1:Nat):Int),x]) (t':=tk+1) (λ _ _ q=>Heap.get?_push_of_some _ q) (Nat.le_refl _)
      ⟨(by show 2<=sizeLine;decide),[.int ((j+1:Nat):Int) tk,v], .cons ⟨_,rfl⟩ (.cons ru .nil),⟨_,Heap.get?_push_size _ rfl,rfl,_,rfl⟩⟩
    have f0:∀ b∈[e,it],Ed X pins (upd H s.heap.objs.size (.tup [.int ((j+1:Nat):Int),x])) b:=λ b hb=>Lh (hf b hb) (by
      rcases List.mem_cons.mp hb with z | z
      · rw [z];exact Nat.ne_of_lt hel
      · rw [show b=it by simpa using z];exact Nat.ne_of_lt hil)
    have I1:=Inv.turnedL (t':=tk+1) (h':=h') [e,it] I0 f0 (λ b o hb z=>by
      have hb1:b≠e:=λ q=>hb (by simp [q]);have hb2:b≠it:=λ q=>hb (by simp [q]);rcases Heap.get?_push_cases (show (s.heap.push { cls:= .type "tuple",data:= .seq #[.int ((j+1:Nat):Int) tk,v] }).get? b=some o from z) with ⟨q1,q2⟩ | q
      · rw [q1,q2];exact hT
      · exact hk b o hb1 hb2 q)
    refine ⟨.ref s.heap.objs.size,rfl,wpAny_letOwnedTupleGo_enum (s:={ s with heap:=h',toks:=tk+1 }) ho λ h2 he2 sb=> ?_⟩;exact ⟨.ref s.heap.objs.size,_,Inv.turnedL (t':=tk+1) (h':=h2) [e,it] I1 f0 (λ b o hb z=>(sb.2 b λ q=>hb (by simp [q])).trans z),rfl,⟨_,x,I.fresh,rfl,rfl,λ ys hy=>by rw [Jm I hy hq];exact hx⟩,
      ⟨⟨v,by simpa using he2⟩,AE hi' λ o z=>(sb.2 it hne.symm).trans z⟩,λ b hb=>(f0 b hb).1⟩
  done:=by
    intro X hP hw hK hc i pins s σ H E I hf st hg;subst hP hw hK;obtain ⟨xs,hq,hx⟩:=hg;obtain ⟨its,rv,p⟩:=Cc I hq;obtain ⟨⟨old,he⟩,hi⟩:=st;obtain ⟨oi,ei,di⟩:=BD hi;obtain ⟨oa,na,ea,da⟩:=EG p;have hT:s.TypeIs (.ref e) "enumerate":=⟨_,he,rfl⟩;have hl:=rv.length;unfold pyNext;refine wpAny_bind (wpAny_attempt (wpAny_callSpecial?_slot (name:=Str.ofString "__next__") hT F.slot_enumerate_next (wpAny_call_entry F.slot_enumerate_next hT F.entry_enumerate_next ?_ (F.args_enumerate_next_1 _))));show wpAny _ _ (field (.ref e) 2 >>= _) _ _ _;refine wpAny_bind (wpAny_field he rfl (x:= .ref it) rfl ?_);refine wpAny_bind (GS (A:=X.A.in1) (I.ok.hd hc) hi p (by simp;omega) λ h' x eb hx'=> ?_);obtain ⟨o,ho,hc2⟩:=hx';exact wpAny_bind (wpAny_isInstance (T:="StopIteration") (b:=true) ⟨o,ho,hc2⟩ isSubtype_stop (wpAny_pure ⟨rfl,I.turnedL (t':=s.toks) [e,it] hf λ b o hb z=>eb b o (λ q=>hb (by simp [q])) z⟩))
  self:=λ _ _ _ _ _ st h=>by
    obtain ⟨⟨old,he⟩,_⟩:=st;exact wpAny_pyIter_enum he h
section
variable {X:Cx} {elts:List Expr} {k:Nat} {tpos:Pos} {K:PySem.W.Frag}
def NU (K:PySem.W.Frag) (ta:TA):TI:=λ σ H R=>ta σ H λ vs H1=>∃ tp a,vs=[.ref a]/\(∃ xs,SqS tp K H1 a xs)/\R (Pe tp K a) H1
theorem MY {l:Expr} {ta:TA} {p pos kp cp:Pos} {cj:Nat} (hg:Gl X "enumerate") (hm:X.mg "enumerate"=none) (ha:PA X [l] ta) (hK:X.K=K:=by rfl) (hs:starEach [l] X.env=[(false,eval l X.env)]:=by rfl):
    PI X (.Tuple elts k tpos) (.Call (.Name "enumerate" p) [l] [⟨some "start", .Constant (.int 1) cj cp,kp⟩] pos) (NU K ta):=by
  subst hK;intro pins s σ H R I h;refine wpAny_Call_Name_kw (Di I hg hm Jb (Ka (by rw [hs];rfl) rfl (PyProof.Rows.evalArgs_kw2 rfl ?_ (by rw [hs];rfl))));refine thn (ha pos pins s σ H _ I h) λ us s1 ⟨vs,H1,I1,r1,q1⟩=>PyProof.Rows.kwAll_cons ?_;refine Af pins s1 σ H1 (λ v H2=>v= .int 1/\H2=H1) I1 ⟨rfl,rfl⟩ |> λ z=>thn z λ u s2 ⟨v,H2,I2,r2,ev,eh⟩=> ?_
  subst ev eh;obtain ⟨t,rfl⟩:=r2;refine PyProof.Rows.kwAll_nil ?_;obtain ⟨tp,a,e,⟨xs,hq⟩,q⟩:=q1;subst e;cases r1 with
  | cons r rr=>
    cases rr;cases r;obtain ⟨its,rv,pl⟩:=Cc I2 hq;refine Lv ?_;refine He pl ⟨_,rfl,λ h' he hk hsz=> ?_⟩;refine wpAny_pyIter_enum he ?_;have hz:(s2.heap.push { cls:= .type (Jc tp),data:= .fields #[.ref a, .int 0 0] }).objs.size=s2.heap.objs.size+1:=Heap.size_push ..;have hk2:∀ b o,s2.heap.get? b=some o->h'.get? b=some o:=λ b o z=>hk b o (Heap.get?_push_of_some _ z);have I3:=I2.kept (t':=s2.toks) hk2;have st:BE tp h' s2.heap.objs.size a 0:=AE F1 λ o z=>hk _ o z;refine ⟨_,[_,s2.heap.objs.size],_,_,H2,rfl,I3,Li tp a _ _ (by rw [hz];exact Nat.succ_ne_self _),⟨⟨_,he⟩,st⟩,λ b hb=> ?_,q⟩;have hb':s2.heap.objs.size<=b:=by
      rcases List.mem_cons.mp hb with z | z
      · rw [z,hz];exact Nat.le_succ _
      · have z:b=s2.heap.objs.size:=by simpa using z
        rw [z];exact Nat.le_refl _
    exact I2.fpOk hb' (I2.hok.fresh hb')
end
noncomputable def Isq (tp:Bool) (K:PySem.W.Frag) (a:Addr):It:=if tp=true then Itt K a else Itl K a
section
variable {X:Cx} {tg:Expr} {K:PySem.W.Frag}
end
structure FSrc (J:It) (g:TG) (H:Hp) (n:Nat) (set:Nat->St->St):Prop where
  go:∀ i H',i<n->Same H H'->J.go i H'
  stop:∀ H',Same H H'->J.stop n H'
  yld:∀ i σ H' x H'' (R:St->Hp->Prop),i<n->Same H H'->J.yld i H' x H''->(∀ H3,Same H' H3->R (set i σ) H3)->g x σ H'' R
theorem GZ {J:It} {g:TG} {H:Hp} {n:Nat} {set:Nat->St->St} {tb:TS} {D:Ends} {σ:St} (S:FSrc J g H n set) (Pv:Nat->St->Hp->Prop) (h0:Pv 0 σ H) (hk:∀ i σ H',Pv i σ H'->Same H H')
    (hs:∀ i σ H' H3,i<n->Pv i σ H'->Same H' H3->tb { D with nx:=Pv (i+1),ct:=Pv (i+1),bk:=D.nx } (set i σ) H3) (hd:∀ σ H',Pv n σ H'->D.nx σ H'):
    ∃ W:Nat->Nat->St->Hp->Prop,(∃ m,W 0 m σ H)/\∀ i m σ H,W i m σ H->
      (J.stop i H/\D.nx σ H)\/(J.go i H/\∃ N:St->Hp->Prop,(∀ σ' H',N σ' H'->∃ m',m'<m/\W (i+1) m' σ' H')/\∀ x H',J.yld i H x H'->g x σ H' λ σ2 H2=>tb { D with nx:=N,ct:=N,bk:=D.nx } σ2 H2):=by
  refine ⟨λ i m σ H'=>m=n - i/\i<=n/\Pv i σ H',⟨n,by simp,Nat.zero_le _,h0⟩,?_⟩;rintro i m σ H1 ⟨rfl,hi,p⟩;by_cases hlt:i<n
  · exact .inr ⟨S.go i H1 hlt (hk _ _ _ p),Pv (i+1),λ σ' H' p'=>⟨n - (i+1),by omega,rfl,hlt,p'⟩,λ x H' y=>S.yld i σ H1 x H' _ hlt (hk _ _ _ p) y λ H3 s3=>hs i σ H1 H3 hlt p s3⟩
  · have e:i=n:=by omega
    subst e;exact .inl ⟨S.stop H1 (hk _ _ _ p),hd σ H1 p⟩
section
variable {K:PySem.W.Frag} {H:Hp} {a b:Addr} {xs zs:List V} {tp t1 t2:Bool} {i1 i2:Nat}
theorem UG (h:SqS tp K H a xs):FSrc (Isq tp K a) (AS i1) H xs.length (λ i σ=>σ.set i1 (some (xs.getD i .non))):=by
  cases tp with
  | false=>exact {
      go:=λ i H' hi s=>⟨xs,xs[i],SqS.same (tp:=false) h s,by simp [hi]⟩
      stop:=λ H' s=>⟨xs,SqS.same (tp:=false) h s,Nat.le_refl _⟩
      yld:=λ i σ H' x H'' R hi s y k=>by
        obtain ⟨e,hv⟩:=y;subst e;have e:x=xs.getD i .non:=by
          rw [List.getD_eq_getElem?_getD,hv xs (SqS.same (tp:=false) h s)];rfl
        subst e;exact k _ (Same.refl _) }
  | true=>exact {
      go:=λ i H' hi s=>⟨xs,xs[i],SqS.same (tp:=true) h s,by simp [hi]⟩
      stop:=λ H' s=>⟨xs,SqS.same (tp:=true) h s,Nat.le_refl _⟩
      yld:=λ i σ H' x H'' R hi s y k=>by
        obtain ⟨e,hv⟩:=y;subst e;have e:x=xs.getD i .non:=by
          rw [List.getD_eq_getElem?_getD,hv xs (SqS.same (tp:=true) h s)];rfl
        subst e;exact k _ (Same.refl _) }
theorem GP (h:SqL K H a xs):FSrc (Itl K a) (AS i1) H xs.length (λ i σ=>σ.set i1 (some (xs.getD i .non))):=UG (tp:=false) h
theorem FC {lo:Int} {n:Nat}:FSrc (Itr lo n) (AS i1) H n (λ i σ=>σ.set i1 (some (.int (lo+i)))) where
  go:=λ i H' hi s=>hi
  stop:=λ H' s=>Nat.le_refl _
  yld:=λ i σ H' x H'' R hi s y k=>by
    obtain ⟨e,hv⟩:=y;subst e hv;exact k _ (Same.refl _)
theorem NN (h:SqS tp K H a xs):FSrc (Pe tp K a) (HI K 2 (BN (AS i1) (BN (AS i2) HR))) H xs.length (λ i σ=>(σ.set i1 (some (.int ((i+1:Nat):Int)))).set i2 (some (xs.getD i .non))) where
  go:=λ i H' hi s=>⟨xs,xs[i],h.same s,by simp [hi]⟩
  stop:=λ H' s=>⟨xs,h.same s,Nat.le_refl _⟩
  yld:=λ i σ H' x H'' R hi s y k=>by
    obtain ⟨p,v,hp,rfl,rfl,hv⟩:=y;have e:v=xs.getD i .non:=by
      rw [List.getD_eq_getElem?_getD,hv xs (h.same s)];rfl
    subst e;exact ⟨p,_,rfl,SqT.of Ag,rfl,_,_,rfl,_,_,rfl,rfl,k _ (Aj hp)⟩
theorem VP (h:SqS t1 K H a xs) (h':SqS t2 K H b zs) (hl:xs.length=zs.length):
    FSrc (Izs t1 t2 K a b) (HI K 2 (BN (AS i1) (BN (AS i2) HR))) H xs.length (λ i σ=>(σ.set i1 (some (xs.getD i .non))).set i2 (some (zs.getD i .non))) where
  go:=λ i H' hi s=>⟨xs,zs,xs[i],zs[i]'(by omega),h.same s,h'.same s,by simp [hi],by simp⟩
  stop:=λ H' s=>⟨xs,zs,h.same s,h'.same s, .inl (Nat.le_refl _)⟩
  yld:=λ i σ H' x H'' R hi s y k=>by
    obtain ⟨p,v,z,hp,rfl,rfl,hv,hz⟩:=y;have e:v=xs.getD i .non:=by
      rw [List.getD_eq_getElem?_getD,hv xs (h.same s)];rfl
    have e2:z=zs.getD i .non:=by
      rw [List.getD_eq_getElem?_getD,hz zs (h'.same s)];rfl
    subst e e2;exact ⟨p,_,rfl,SqT.of Ag,rfl,_,_,rfl,_,_,rfl,rfl,k _ (Aj hp)⟩
end
theorem bA (a b:Nat):Builtin.bitAnd (a:Int) (b:Int)=((a &&& b:Nat):Int):=by
  rw [PyProof.Rows.bitAnd_pp (by omega) (by omega)];rfl
theorem J7 (n:Nat):(1:Int)*2 ^ n=((2 ^ n:Nat):Int):=by
  rw [Int.one_mul];push_cast;rfl
section
variable {X:Cx}
end
section
variable {H:Hp} {Q:VK} {σ:St} {D:Ends} {te:TE} {ti:TIp} {i:Nat} {x:V}
theorem Ri (e:σ[i]?=some (some x)) (h:te σ H λ y H1=>ti x y H1 λ z H2=>D.nx (σ.set i (some z)) H2):UU i te ti D σ H:=⟨x,e,h⟩
end
noncomputable abbrev nV (n:Nat):V:= .int (n:Nat)
theorem KL {ns:List Nat} {i:Nat} (h:i<(ns.map nV).length):(ns.map nV).getD i .non= .int (ns.getD i 0:Nat):=by
  have h':i<ns.length:=by simpa using h
  simp [List.getD_eq_getElem?_getD,h']
theorem C6 {ns:List Int} {i:Nat} (h:i<(ns.map V.int).length):(ns.map V.int).getD i .non= .int (ns.getD i 0):=by
  have h':i<ns.length:=by simpa using h
  simp [List.getD_eq_getElem?_getD,h']
theorem OZ {ns:List Int} {k:Int} (h0:0<=k) (h1:k<ns.length):atI (ns.map V.int) k=some (.int (ns.getD k.toNat 0)):=by
  obtain ⟨j,rfl⟩:∃ j:Nat,k=j:=⟨k.toNat,by omega⟩;have h':j<ns.length:=by omega
  refine AQ ?_;rw [show ((j:Int)).toNat=j by omega];simp [List.getD_eq_getElem?_getD,h']
theorem Gb {J:It} {g:TG} {σ0:St} {H:Hp} {n:Nat} {st:Nat->St} {te:TE} {Q:VK} {D:Addr} {G:Nat->Int} (S:SrcOk J g σ0 H n st) (hD:H D=none) (hn:n<=100000)
    (he:∀ i H' (R:VK),i<n->Same H H'->(∀ H3,Same H' H3->R (.int (G i)) H3)->te (st i) H' R)
    (hd:∀ H',Same H H'->H' D=some (.lst (((List.range n).map G).map V.int))->Q (.ref D) H'):DW J σ0 g Mr te Q H D:=by
  refine AL (m:=0) (G:=λ i=> .int (G i)) S hD hn (λ i H' R hi s k=>he i H' R hi s λ H3 s3=>k H3 _ s3 (.int _)) λ H' ys s hl r=> ?_;have e:(List.range n).map (λ i=>Dt.int (G i))=((List.range n).map G).map Dt.int:=by rw [List.map_map];rfl
  rw [e] at r;obtain ⟨b,eb,hb,fb⟩:=LO r;cases eb;exact hd H' s hb
theorem K2 {J:It} {g:TG} {σ0:St} {H:Hp} {n:Nat} {st:Nat->St} {tc:TT} {te:TE} {Q:VK} {D:Addr} {p:Nat->Bool} {G:Nat->Int} (S:SrcOk J g σ0 H n st) (hD:H D=none) (hn:n<=100000)
    (ht:∀ i H' (R:Bool->Hp->Prop),i<n->Same H H'->(∀ H3,Same H' H3->R (p i) H3)->tc (st i) H' R)
    (he:∀ i H' (R:VK),i<n->p i=true->Same H H'->(∀ H3,Same H' H3->R (.int (G i)) H3)->te (st i) H' R)
    (hd:∀ H',Same H H'->H' D=some (.lst ((((List.range n).filter p).map G).map V.int))->Q (.ref D) H'):DW J σ0 g tc te Q H D:=by
  refine IT (m:=0) (p:=p) (G:=λ i=> .int (G i)) S hD hn ht (λ i H' R hi hp s k=>he i H' R hi hp s λ H3 s3=>k H3 _ s3 (.int _)) λ H' ys s hl r=> ?_;have e:((List.range n).filter p).map (λ i=>Dt.int (G i))=(((List.range n).filter p).map G).map Dt.int:=by rw [List.map_map];rfl
  rw [e] at r;obtain ⟨b,eb,hb,fb⟩:=LO r;cases eb;exact hd H' s hb
theorem FP {J:It} {g:TG} {σ0:St} {H:Hp} {n:Nat} {st:Nat->St} {te:TE} {Q:VK} {D:Addr} {G:Nat->Bool} (S:SrcOk J g σ0 H n st) (hD:H D=none) (hn:n<=100000)
    (he:∀ i H' (R:VK),i<n->Same H H'->(∀ H3,Same H' H3->R (.bl (G i)) H3)->te (st i) H' R)
    (hd:∀ H',Same H H'->H' D=some (.lst (((List.range n).map G).map V.bl))->Q (.ref D) H'):DW J σ0 g Mr te Q H D:=by
  refine AL (m:=0) (G:=λ i=> .bl (G i)) S hD hn (λ i H' R hi s k=>he i H' R hi s λ H3 s3=>k H3 _ s3 (.bl _)) λ H' ys s hl r=> ?_;have e:ys=((List.range n).map G).map V.bl:=by
    cases r with
    | @lst _ _ vs _ q f b l ee=>
      rw [hl] at q;cases q;refine List.ext_getElem (by simpa using l) λ i h1 h2=> ?_;have hi:i<n:=by simpa using h2
      have:=ee i ys[i] (.bl (G i)) (by simp [h1]) (by simp [hi]);cases hv:ys[i] <;> rw [hv] at this <;> cases this;simp
  rw [e] at hl;exact hd H' s hl
def LH (P:Program) (w:World) (K:PySem.W.Frag) (mg:Str->Option Value) (base:Heap) (x:Str) (C:Addr) (k:Nat) (ps:List Str) (sp:Sp):Prop:=
  ∃ f fd,mg x=some (.ref C)/\Mk K C f/\FnOk P w K mg base CX0 k f fd ps sp/\Binds K fd ps []
def Gn (P:Program) (w:World) (K:PySem.W.Frag) (mg:Str->Option Value) (base:Heap) (C:Addr) (m:Str) (k:Nat) (ps:List Str) (sp:Sp):Prop:=
  ∃ f fd,Cls K C/\Meth K C m f/\FnOk P w K mg base CX0 k f fd ps sp/\Binds K fd ps []
section
variable {X:Cx} {x m:Str} {C:Addr} {k:Nat} {ps:List Str} {sp:Sp} {o e:Expr} {es:List Expr} {t:TA} {ta:TE} {p pos apos:Pos}
theorem J2 (h:LH X.prog X.w X.K X.mg X.base x C k ps sp) (hr:Room (k+1) X.A) (ha:PA X (e::es) t) (hg:Gl X x:=by rfl) (hdb:(x == ("__debug__":Str))=false:=by decide)
    (he:starEach (e::es) X.env=(false,eval e X.env)::starEach es X.env:=by rfl) (hpl:(backTo pos (starEach es X.env)).any (·.1)=false:=by rfl):
    PE X (.Call (.Name x p) (e::es) [] pos) (LQ C sp [] E0 t):=by
  obtain ⟨f,fd,hm,M,F,hb⟩:=h;exact O6 M F hr hg hm hb .nil LW ha hdb he hpl
theorem Wy {pl:Sem Bool} (he:PE X o ta) (h:Gn X.prog X.w X.K X.mg X.base C m k ps sp) (hr:Room k X.A) (ha:PA X (e::es) t)
    (hst:starEach (e::es) X.env=(false,eval e X.env)::starEach es X.env:=by rfl) (hpl:(backTo pos (starEach es X.env)).any (·.1)=false:=by rfl)
    (ht:eval (.Call (.Attribute o m apos) (e::es) [] pos) X.env=(do
      let ov <-eval o X.env
      standAt apos.atName
      let (f,first) <-holding [ov] (getMethod ov m pl)
      callWith pos f first (backTo pos (starEach (e::es) X.env)) (backToKw pos (keywordEach [] X.env))):=by rfl):
    PE X (.Call (.Attribute o m apos) (e::es) [] pos) (IA C m sp [] E0 ta t):=by
  obtain ⟨f,fd,c,hm,F,hb⟩:=h;exact Ot (pl:=pl) he c hm F hr hb .nil LW ha hst hpl ht
theorem EF {pl:Sem Bool} (he:PE X o ta) (h:Gn X.prog X.w X.K X.mg X.base C m k ps sp) (hr:Room k X.A)
    (ht:eval (.Call (.Attribute o m apos) [] [] pos) X.env=(do
      let ov <-eval o X.env
      standAt apos.atName
      let (f,first) <-holding [ov] (getMethod ov m pl)
      callWith pos f first (backTo pos (starEach [] X.env)) (backToKw pos (keywordEach [] X.env))):=by rfl):
    PE X (.Call (.Attribute o m apos) [] [] pos) (IA C m sp [] E0 ta JK):=by
  obtain ⟨f,fd,c,hm,F,hb⟩:=h;exact MT (pl:=pl) he c hm F hr hb .nil LW ht
theorem To {x:Str} {C:Addr} {pos:Pos} (h:X.mg x=some (.ref C)) (hg:Gl X x:=by rfl) (hd:(x == ("__debug__":Str))=false:=by decide):PE X (.Name x pos) (tC (.ref C)):=Jn hg h rfl hd
end
structure Kind (K:PySem.W.Frag) (C:Addr):Prop where
  cl:Cls K C
  ha:PySem.W.findIn K (.ref C) "__class__"=some (some (.builtin "object.__class__"))
  hn:PySem.W.specialIn K (.builtin "object.__class__") "__get__"=some (some (.builtin "getset_descriptor.__get__"))
  htk:PySem.W.takesIn K (.builtin "object.__class__")=some true
  hm:PySem.W.mroIn K C (.type "object")=some true
section
variable {K:PySem.W.Frag} {H:Hp} {Q:VK} {σ:St} {D:Ends} {te tv:TE} {t:TA} {a C dx:Addr} {fs:List (Str × V)} {f:Str} {v:V} {sp:Sp}
theorem Rr (h:te σ H λ x H1=>∃ a C dx fs v,x= .ref a/\H1 a=some (.ins C dx fs)/\Cls K C/\NoAttr K C f/\fs.lookup f=some v/\Q v H1):Qv K te f σ H Q:=h
theorem Ry (h:tv σ H λ y H1=>te σ H1 λ x H2=>∃ a C dx fs,x= .ref a/\H2 a=some (.ins C dx fs)/\Cls K C/\NoAttr K C f/\fs.length<1000/\D.nx σ (upd H2 a (.ins C dx (A1 f y fs)))):SH K te tv f D σ H:=h
theorem E7 {y:V} (e:H a=some (.ins C dx fs)) (c:Cls K C) (n:NoAttr K C f) (l:fs.length<1000) (h:D.nx σ (upd H a (.ins C dx (A1 f y fs)))):∃ a' C' dx' fs',V.ref a= .ref a'/\H a'=some (.ins C' dx' fs')/\Cls K C'/\NoAttr K C' f/\fs'.length<1000/\D.nx σ (upd H a' (.ins C' dx' (A1 f y fs'))):=⟨a,C,dx,fs,rfl,e,c,n,l,h⟩
theorem OQ (h:t σ H λ vs H1=>∀ x dx,H1 x=none->H1 dx=none->dx≠x->sp (.ref x::vs) (upd (upd H1 dx (.own x)) x (.ins C dx [])) (λ v H2=>v= .non/\Q (.ref x) H2) E0):LQ C sp [] E0 t σ H Q:=by
  unfold LQ;simpa using h
theorem Oo {m:Str} (h:te σ H λ x H1=>∃ a dx fs,x= .ref a/\H1 a=some (.ins C dx fs)/\fs.lookup m=none/\t σ H1 λ vs H2=>sp (x::vs) H2 Q E0):IA C m sp [] E0 te t σ H Q:=by
  unfold IA;simpa using h
end
theorem NW {r r':R2} {ta tb tc:TE} {σ:St} {H:Hp} {Q:VK} (h:ta σ H λ x H1=>tb σ H1 λ y H2=>r x y H2 λ z H3=>∃ k,z= .bl k/\(if k=true then tc σ H3 λ w' H4=>r' y w' H4 Q else Q (.bl false) H3)):Nb r r' ta tb tc σ H Q:=h
noncomputable def EY (x:V) (a b:Int):Bool:=match x with | .int i=>decide (a<=i)&&decide (i<=b) | _=>false
theorem Gm {b b':Bool} {Q:VK} {H:Hp} (e:b=b') (h:Q (.bl b') H):Q (.bl b) H:=e▸h
theorem Q5 {b:Bool} {A B:Prop} (h1:b=true->A) (h2:b=false->B):if b=true then A else B:=by
  cases b with
  | true=>exact h1 rfl
  | false=>exact h2 rfl
theorem Oj {H:Hp} {x dx:Addr} {o:HO} {u:HO} (h1:H x=none) (h2:H dx=none):Same H (upd (upd H dx u) x o):=λ b q e=>by
  rw [As (AZ e h1),As (AZ e h2)];exact e
mutual
noncomputable def eqD:Dt->Dt->Bool
  | .non, .non=>true
  | .bl a, .bl b=>a == b
  | .int a, .int b=>a == b
  | .str a, .str b=>a == b
  | .bl a, .int b=>(if a then 1 else 0) == b
  | .int a, .bl b=>a == (if b then 1 else 0)
  | .lst xs, .lst ys=>Ef xs ys
  | .tup xs, .tup ys=>Ef xs ys
  | _,_=>false
noncomputable def Ef:List Dt->List Dt->Bool
  | [],[]=>true
  | x::xs,y::ys=>eqD x y&&Ef xs ys
  | _,_=>false
end
theorem Cz:∀ {xs ys:List Dt},xs.length≠ys.length->Ef xs ys=false
  | [],[],h=>absurd rfl h
  | [],_::_,_=>by unfold Ef;rfl
  | _::_,[],_=>by unfold Ef;rfl
  | x::xs,y::ys,h=>by
    unfold Ef;rw [Cz (xs:=xs) (ys:=ys) (λ e=>h (by simp [e])),Bool.and_false]
theorem CC:∀ {xs ys:List Dt},xs.length=ys.length->Ef xs ys=(List.range xs.length).all λ i=>eqD (xs.getD i .non) (ys.getD i .non)
  | [],[],_=>by unfold Ef;rfl
  | [],_::_,h=>by simp at h
  | _::_,[],h=>by simp at h
  | x::xs,y::ys,h=>by
    unfold Ef;rw [CC (xs:=xs) (ys:=ys) (by simpa using h),List.length_cons,List.range_succ_eq_map,List.all_cons,List.all_map];rfl
mutual
theorem Fw:∀ d:Dt,eqD d d=true
  | .non=>by unfold eqD;rfl
  | .bl a=>by unfold eqD;simp
  | .int a=>by unfold eqD;simp
  | .str a=>by unfold eqD;simp
  | .lst xs=>by unfold eqD;exact FW xs
  | .tup xs=>by unfold eqD;exact FW xs
theorem FW:∀ d:List Dt,Ef d d=true
  | []=>by unfold Ef;rfl
  | x::xs=>by unfold Ef;rw [Fw x,FW xs];rfl
end
theorem Rp.inj {H:Hp} {F G:Addr->Prop} {n m:Nat} {v:V} {d e:Dt} (r:Rp H F n v d) (r2:Rp H G m v e):d=e:=by
  induction r generalizing m e with
  | non=>cases r2;rfl
  | bl b=>cases r2;rfl
  | int i=>cases r2;rfl
  | str z=>cases r2;rfl
  | @lst n a vs ds h f b l el ih=>
    cases r2 with
    | @lst m _ vs2 ds2 h2 f2 b2 l2 el2=>
      rw [h] at h2;cases h2;congr 1;refine List.ext_getElem (by omega) λ i h1 h3=> ?_;have hv:i<vs.length:=by omega
      exact ih i vs[i] ds[i] (by simp [hv]) (by simp [h1]) (el2 i vs[i] ds2[i] (by simp [hv]) (by simp [h3]))
    | tup h2 _ _ _=>rw [h] at h2;cases h2
  | @tup n a vs ds h b l el ih=>
    cases r2 with
    | @tup m _ vs2 ds2 h2 b2 l2 el2=>
      rw [h] at h2;cases h2;congr 1;refine List.ext_getElem (by omega) λ i h1 h3=> ?_;have hv:i<vs.length:=by omega
      exact ih i vs[i] ds[i] (by simp [hv]) (by simp [h1]) (el2 i vs[i] ds2[i] (by simp [hv]) (by simp [h3]))
    | lst h2 _ _ _ _=>rw [h] at h2;cases h2
section
variable {X:Cx} {pins:List (Addr × Obj)} {σ:St} {H:Hp} {s:Shared}
theorem Es {F G:Addr->Prop} {n:Nat} {xs ys:List V} {ds es:List Dt} {its its2:List Value} {A:Around} (r:Vals xs its) (r2:Vals ys its2) (l1:xs.length=ds.length) (l2:ys.length=es.length)
    (el:∀ (i:Nat) (v:V) (d:Dt),xs[i]?=some v->ds[i]?=some d->Rp H F n v d) (el2:∀ (i:Nat) (v:V) (d:Dt),ys[i]?=some v->es[i]?=some d->Rp H G n v d)
    (ih:∀ {v u:V} {d e:Dt} {rv ru:Value},Rp H F n v d->Rp H G n u e->RelV v rv->RelV u ru->SeqAt.EqAt A s rv ru (eqD d e)):
    ∀ j (h1:j<its.toArray.size) (h2:j<its2.toArray.size),SeqAt.EqAt A s its.toArray[j] its2.toArray[j] (eqD (ds.getD j .non) (es.getD j .non)):=λ j h1 h2=>by
  have k1:=r.length;have k2:=r2.length;have h1':j<its.length:=by simpa using h1
  have h2':j<its2.length:=by simpa using h2
  have g1:xs[j]?=some (xs.getD j .non):=by rw [List.getD_eq_getElem?_getD,List.getElem?_eq_getElem (by omega)];rfl
  have g2:ys[j]?=some (ys.getD j .non):=by rw [List.getD_eq_getElem?_getD,List.getElem?_eq_getElem (by omega)];rfl
  have d1:ds[j]?=some (ds.getD j .non):=by rw [List.getD_eq_getElem?_getD,List.getElem?_eq_getElem (by omega)];rfl
  have d2:es[j]?=some (es.getD j .non):=by rw [List.getD_eq_getElem?_getD,List.getElem?_eq_getElem (by omega)];rfl
  obtain ⟨u,e1,ru⟩:=r.get g1;obtain ⟨u2,e2,ru2⟩:=r2.get g2;have q1:its.toArray[j]=u:=by rw [List.getElem?_eq_getElem h1'] at e1;simpa using Option.some.inj e1
  have q2:its2.toArray[j]=u2:=by rw [List.getElem?_eq_getElem h2'] at e2;simpa using Option.some.inj e2
  rw [q1,q2];exact ih (el j _ _ g1 d1) (el2 j _ _ g2 d2) ru ru2
theorem Cf (A:Around):A.in1.units=A.units+1:=rfl
theorem JW (I:Inv X pins σ H s) {F G:Addr->Prop}:∀ {n:Nat} {A:Around} {v u:V} {d e:Dt} {rv ru:Value},Rp H F n v d->Rp H G n u e->RelV v rv->RelV u ru->A.units+n<cLine->SeqAt.EqAt A s rv ru (eqD d e):=by
  intro n;have sc:∀ {n m:Nat} {A:Around} {v u:V} {d e:Dt} {rv ru:Value},Rp H F n v d->Rp H G m u e->(DG d||B9 d)=false->(DG e||B9 e)=false->RelV v rv->RelV u ru->SeqAt.EqAt A s rv ru (eqD d e):=by
    intro n m A v u d e rv ru r r2 n1 n2 rr rr2;cases r with
    | non=>
      cases rr;cases r2 with
      | non=>
        cases rr2;simp only [eqD];exact (show SeqAt.EqAt A s Value.none Value.none true from SeqAt.EqAt.same _)
      | bl x2=>
        cases rr2;simp only [eqD];exact SeqAt.EqAt.none_bool _
      | int x2=>
        obtain ⟨t2,rfl⟩:=rr2;simp only [eqD];exact SeqAt.EqAt.none_int _ _
      | str x2=>
        obtain ⟨t2,rfl⟩:=rr2;simp only [eqD];exact SeqAt.EqAt.none_str _ _
      | lst _ _ _ _ _=>cases n2
      | tup _ _ _ _=>cases n2
    | bl x1=>
      cases rr;cases r2 with
      | non=>
        cases rr2;simp only [eqD];exact SeqAt.EqAt.bool_none _
      | bl x2=>
        cases rr2;simp only [eqD];exact SeqAt.EqAt.bool_bool _ _
      | int x2=>
        obtain ⟨t2,rfl⟩:=rr2;simp only [eqD];exact SeqAt.EqAt.bool_int _ _ _
      | str x2=>
        obtain ⟨t2,rfl⟩:=rr2;simp only [eqD];exact SeqAt.EqAt.bool_str _ _ _
      | lst _ _ _ _ _=>cases n2
      | tup _ _ _ _=>cases n2
    | int x1=>
      obtain ⟨t1,rfl⟩:=rr;cases r2 with
      | non=>
        cases rr2;simp only [eqD];exact SeqAt.EqAt.int_none _ _
      | bl x2=>
        cases rr2;simp only [eqD];exact SeqAt.EqAt.int_bool _ _ _
      | int x2=>
        obtain ⟨t2,rfl⟩:=rr2;simp only [eqD];exact SeqAt.EqAt.int_int _ _ _ _
      | str x2=>
        obtain ⟨t2,rfl⟩:=rr2;simp only [eqD];exact SeqAt.EqAt.int_str _ _ _ _
      | lst _ _ _ _ _=>cases n2
      | tup _ _ _ _=>cases n2
    | str x1=>
      obtain ⟨t1,rfl⟩:=rr;cases r2 with
      | non=>
        cases rr2;simp only [eqD];exact SeqAt.EqAt.str_none _ _
      | bl x2=>
        cases rr2;simp only [eqD];exact SeqAt.EqAt.str_bool _ _ _
      | int x2=>
        obtain ⟨t2,rfl⟩:=rr2;simp only [eqD];exact SeqAt.EqAt.str_int _ _ _ _
      | str x2=>
        obtain ⟨t2,rfl⟩:=rr2;simp only [eqD];exact SeqAt.EqAt.str_str _ _ _ _
      | lst _ _ _ _ _=>cases n2
      | tup _ _ _ _=>cases n2
    | lst _ _ _ _ _=>cases n1
    | tup _ _ _ _=>cases n1
  induction n with
  | zero=>
    intro A v u d e rv ru r r2 rr rr2 hu;exact sc r r2 (by cases r <;> rfl) (by cases r2 <;> rfl) rr rr2
  | succ n ih=>
    intro A v u d e rv ru r r2 rr rr2 hu;have hu':A.units<cLine:=by omega
    cases h1:(DG d||B9 d) with
    | false=>
      cases h2:(DG e||B9 e) with
      | false=>exact sc r r2 h1 h2 rr rr2
      | true=>
        cases r2 with
        | @lst _ b ys es q2 f2 b2 l2 el2=>
          obtain rfl:ru=Value.ref b:=rr2;obtain ⟨its2,rv2,pl2,_⟩:=I.list (SqL.of q2);cases r with
          | non=>cases rr;simp only [eqD];exact SeqAt.EqAt.none_list pl2.isList hu'
          | bl x1=>cases rr;simp only [eqD];exact SeqAt.EqAt.bool_list _ pl2.isList hu'
          | int x1=>obtain ⟨t,rfl⟩:=rr;simp only [eqD];exact SeqAt.EqAt.int_list _ _ pl2.isList hu'
          | str x1=>obtain ⟨t,rfl⟩:=rr;simp only [eqD];exact SeqAt.EqAt.str_list _ _ pl2.isList hu'
          | lst _ _ _ _ _=>cases h1
          | tup _ _ _ _=>cases h1
        | @tup _ b ys es q2 b2 l2 el2=>
          obtain rfl:ru=Value.ref b:=rr2;obtain ⟨its2,rv2,pl2,_⟩:=I.tuple (SqT.of q2);have pl2:s.heap.IsTuple b its2.toArray:=pl2;cases r with
          | non=>cases rr;simp only [eqD];exact SeqAt.EqAt.none_tuple pl2 hu'
          | bl x1=>cases rr;simp only [eqD];exact SeqAt.EqAt.bool_tuple _ pl2 hu'
          | int x1=>obtain ⟨t,rfl⟩:=rr;simp only [eqD];exact SeqAt.EqAt.int_tuple _ _ pl2 hu'
          | str x1=>obtain ⟨t,rfl⟩:=rr;simp only [eqD];exact SeqAt.EqAt.str_tuple _ _ pl2 hu'
          | lst _ _ _ _ _=>cases h1
          | tup _ _ _ _=>cases h1
        | _=>cases h2
    | true=>
      cases r with
      | @lst _ a xs ds q1 f1 b1 l1 el1=>
        obtain rfl:rv=Value.ref a:=rr;obtain ⟨its,rv1,pl,_⟩:=I.list (SqL.of q1);have k1:=rv1.length;cases r2 with
        | @lst _ b ys es q2 f2 b2 l2 el2=>
          obtain rfl:ru=Value.ref b:=rr2;obtain ⟨its2,rv2,pl2,_⟩:=I.list (SqL.of q2);have k2:=rv2.length;by_cases hab:a=b
          · subst hab;have e:=(Rp.lst (n:=n) q1 f1 b1 l1 el1).inj (Rp.lst (n:=n) q2 f2 b2 l2 el2);rw [e,Fw];exact SeqAt.EqAt.same _
          · refine SeqAt.EqAt.of_refs hab ?_;simp only [eqD];by_cases hl:ds.length=es.length
            · rw [CC hl];have q:=SeqAt.RcAt.lists (A:=A) (e:=λ i=>eqD (ds.getD i .non) (es.getD i .non)) pl.isList pl2.isList (by simp;omega) hu' (Es rv1 rv2 l1 l2 el1 el2 λ r r2 rr rr2=>ih r r2 rr rr2 (by rw [Cf];omega));rw [show its.toArray.size=ds.length by simp;omega] at q;exact q
            · rw [Cz hl];exact SeqAt.RcAt.lists_lengths pl.isList pl2.isList (by simp;omega) hu'
        | @tup _ b ys es q2 b2 l2 el2=>
          obtain rfl:ru=Value.ref b:=rr2;obtain ⟨its2,rv2,pl2,_⟩:=I.tuple (SqT.of q2);simp only [eqD];exact SeqAt.EqAt.list_tuple pl.isList (show s.heap.IsTuple b its2.toArray from pl2) hu'
        | non=>cases rr2;simp only [eqD];exact SeqAt.EqAt.list_none pl.isList hu'
        | bl x1=>cases rr2;simp only [eqD];exact SeqAt.EqAt.list_bool _ pl.isList hu'
        | int x1=>obtain ⟨t,rfl⟩:=rr2;simp only [eqD];exact SeqAt.EqAt.list_int _ _ pl.isList hu'
        | str x1=>obtain ⟨t,rfl⟩:=rr2;simp only [eqD];exact SeqAt.EqAt.list_str _ _ pl.isList hu'
      | @tup _ a xs ds q1 b1 l1 el1=>
        obtain rfl:rv=Value.ref a:=rr;obtain ⟨its,rv1,pl,_⟩:=I.tuple (SqT.of q1);have pl:s.heap.IsTuple a its.toArray:=pl;have k1:=rv1.length;cases r2 with
        | @tup _ b ys es q2 b2 l2 el2=>
          obtain rfl:ru=Value.ref b:=rr2;obtain ⟨its2,rv2,pl2,_⟩:=I.tuple (SqT.of q2);have pl2:s.heap.IsTuple b its2.toArray:=pl2;have k2:=rv2.length;by_cases hab:a=b
          · subst hab;have e:=(Rp.tup (n:=n) (F:=F) q1 b1 l1 el1).inj (Rp.tup (n:=n) (F:=G) q2 b2 l2 el2);rw [e,Fw];exact SeqAt.EqAt.same _
          · refine SeqAt.EqAt.of_refs hab ?_;simp only [eqD];have q:=SeqAt.RcAt.tuples (A:=A) (e:=λ i=>eqD (ds.getD i .non) (es.getD i .non)) pl pl2 hu' (Es rv1 rv2 l1 l2 el1 el2 λ r r2 rr rr2=>ih r r2 rr rr2 (by rw [Cf];omega));have e1:its.toArray.size=ds.length:=by simp;omega
            have e2:its2.toArray.size=es.length:=by simp;omega
            rw [e1,e2] at q;by_cases hl:ds.length=es.length
            · rw [CC hl];rw [<-hl,Nat.min_self,beq_self_eq_true,Bool.and_true] at q;exact q
            · rw [Cz hl];rw [beq_eq_false_iff_ne.mpr hl,Bool.and_false] at q;exact q
        | @lst _ b ys es q2 f2 b2 l2 el2=>
          obtain rfl:ru=Value.ref b:=rr2;obtain ⟨its2,rv2,pl2,_⟩:=I.list (SqL.of q2);simp only [eqD];exact SeqAt.EqAt.tuple_list pl pl2.isList hu'
        | non=>cases rr2;simp only [eqD];exact SeqAt.EqAt.tuple_none pl hu'
        | bl x1=>cases rr2;simp only [eqD];exact SeqAt.EqAt.tuple_bool _ pl hu'
        | int x1=>obtain ⟨t,rfl⟩:=rr2;simp only [eqD];exact SeqAt.EqAt.tuple_int _ _ pl hu'
        | str x1=>obtain ⟨t,rfl⟩:=rr2;simp only [eqD];exact SeqAt.EqAt.tuple_str _ _ pl hu'
      | _=>cases h1
def U4 (neg:Bool):R2:=λ x y H Q=>∃ (n:Nat) (d e:Dt),n<=30/\Rp H FT n x d/\Rp H FT n y e/\(DG d&&DG e||B9 d&&B9 e)=true/\Q (.bl (if neg then !eqD d e else eqD d e)) H
theorem Xn (hu:X.A.units+64<cLine):OpR X (compareOp .Eq) (U4 false):=by
  intro pins s σ H x y v u Q I rx ry h;obtain ⟨n,d,e,hn,r,r2,hs,q⟩:=h;cases r with
  | @lst m a xs ds q1 f1 b1 l1 el1=>
    cases r2 with
    | @lst _ b ys es q2 f2 b2 l2 el2=>
      obtain rfl:v=Value.ref a:=rx;obtain rfl:u=Value.ref b:=ry;obtain ⟨its,rv1,pl,_⟩:=I.list (SqL.of q1);obtain ⟨its2,rv2,pl2,_⟩:=I.list (SqL.of q2);have k1:=rv1.length;have k2:=rv2.length;have q:Q (.bl (Ef ds es)) H:=by
        have q:=q;unfold eqD at q;exact q
      by_cases hl:ds.length=es.length
      · refine SeqAt.eq_listAt (e:=λ i=>eqD (ds.getD i .non) (es.getD i .non)) pl.isList pl2.isList (by simp;omega) (by omega) (Es rv1 rv2 l1 l2 el1 el2 λ r r2 rr rr2=>JW I r r2 rr rr2 (by rw [Cf];omega)) ⟨.bl _,H,I,rfl,?_⟩;rw [show its.toArray.size=ds.length by simp;omega, <-CC hl];exact q
      · refine SeqAt.eq_list_lengthsAt pl.isList pl2.isList (by simp;omega) (by omega) ⟨.bl _,H,I,rfl,?_⟩;rw [<-Cz hl];exact q
    | _=>cases hs
  | @tup m a xs ds q1 b1 l1 el1=>
    cases r2 with
    | @tup _ b ys es q2 b2 l2 el2=>
      obtain rfl:v=Value.ref a:=rx;obtain rfl:u=Value.ref b:=ry;obtain ⟨its,rv1,pl,_⟩:=I.tuple (SqT.of q1);obtain ⟨its2,rv2,pl2,_⟩:=I.tuple (SqT.of q2);have k1:=rv1.length;have k2:=rv2.length;have q:Q (.bl (Ef ds es)) H:=by
        have q:=q;unfold eqD at q;exact q
      refine SeqAt.eq_tupleAt (e:=λ i=>eqD (ds.getD i .non) (es.getD i .non)) (show s.heap.IsTuple a its.toArray from pl) (show s.heap.IsTuple b its2.toArray from pl2) (by omega) (Es rv1 rv2 l1 l2 el1 el2 λ r r2 rr rr2=>JW I r r2 rr rr2 (by rw [Cf];omega)) ⟨.bl _,H,I,rfl,?_⟩;have e1:its.toArray.size=ds.length:=by simp;omega
      have e2:its2.toArray.size=es.length:=by simp;omega
      rw [e1,e2];by_cases hl:ds.length=es.length
      · rw [<-hl,Nat.min_self,beq_self_eq_true,Bool.and_true, <-CC hl];exact q
      · rw [beq_eq_false_iff_ne.mpr hl,Bool.and_false, <-Cz hl];exact q
    | _=>cases hs
  | _=>cases hs
theorem Rm (hu:X.A.units+64<cLine):OpR X (compareOp .NotEq) (U4 true):=by
  intro pins s σ H x y v u Q I rx ry h;obtain ⟨n,d,e,hn,r,r2,hs,q⟩:=h;cases r with
  | @lst m a xs ds q1 f1 b1 l1 el1=>
    cases r2 with
    | @lst _ b ys es q2 f2 b2 l2 el2=>
      obtain rfl:v=Value.ref a:=rx;obtain rfl:u=Value.ref b:=ry;obtain ⟨its,rv1,pl,_⟩:=I.list (SqL.of q1);obtain ⟨its2,rv2,pl2,_⟩:=I.list (SqL.of q2);have k1:=rv1.length;have k2:=rv2.length;have q:Q (.bl (!Ef ds es)) H:=by
        have q:=q;unfold eqD at q;exact q
      by_cases hl:ds.length=es.length
      · refine SeqAt.RcNeAt.lists (e:=λ i=>eqD (ds.getD i .non) (es.getD i .non)) pl.isList pl2.isList (by simp;omega) (by omega) (Es rv1 rv2 l1 l2 el1 el2 λ r r2 rr rr2=>JW I r r2 rr rr2 (by rw [Cf];omega)) _ _ _ _ ⟨.bl _,H,I,rfl,?_⟩;rw [show its.toArray.size=ds.length by simp;omega, <-CC hl];exact q
      · refine SeqAt.RcNeAt.lists_lengths pl.isList pl2.isList (by simp;omega) (by omega) _ _ _ _ ⟨.bl _,H,I,rfl,?_⟩;rw [Cz hl] at q;exact q
    | _=>cases hs
  | @tup m a xs ds q1 b1 l1 el1=>
    cases r2 with
    | @tup _ b ys es q2 b2 l2 el2=>
      obtain rfl:v=Value.ref a:=rx;obtain rfl:u=Value.ref b:=ry;obtain ⟨its,rv1,pl,_⟩:=I.tuple (SqT.of q1);obtain ⟨its2,rv2,pl2,_⟩:=I.tuple (SqT.of q2);have k1:=rv1.length;have k2:=rv2.length;have q:Q (.bl (!Ef ds es)) H:=by
        have q:=q;unfold eqD at q;exact q
      refine SeqAt.RcNeAt.tuples (e:=λ i=>eqD (ds.getD i .non) (es.getD i .non)) (show s.heap.IsTuple a its.toArray from pl) (show s.heap.IsTuple b its2.toArray from pl2) (by omega) (Es rv1 rv2 l1 l2 el1 el2 λ r r2 rr rr2=>JW I r r2 rr rr2 (by rw [Cf];omega)) _ _ _ _ ⟨.bl _,H,I,rfl,?_⟩;have e1:its.toArray.size=ds.length:=by simp;omega
      have e2:its2.toArray.size=es.length:=by simp;omega
      rw [e1,e2];by_cases hl:ds.length=es.length
      · rw [<-hl,Nat.min_self,beq_self_eq_true,Bool.and_true, <-CC hl];exact q
      · rw [beq_eq_false_iff_ne.mpr hl,Bool.and_false, <-Cz hl];exact q
    | _=>cases hs
  | _=>cases hs
end
end L2
namespace L2
open PySem PySem.Spec PyProof.Rows
noncomputable abbrev dN (n:Nat):Dt:= .int (n:Nat)
noncomputable def dL (ns:List Nat):Dt:= .lst (ns.map dN)
noncomputable def dT (ns:List Nat):Dt:= .tup (ns.map dN)
noncomputable def dS (zs:List Str):Dt:= .lst (zs.map .str)
noncomputable def dST (zs:List Str):Dt:= .tup (zs.map .str)
noncomputable def dLL (ls:List (List Nat)):Dt:= .lst (ls.map dL)
noncomputable def dTT (ls:List (List Nat)):Dt:= .tup (ls.map dT)
section
variable {H:Hp} {F:Addr->Prop} {n:Nat} {v:V}
theorem Fz {α:Type} {f:α->V} {g:α->Dt} (uniq:∀ (a:α) (v:V),Rp H F n v (g a)->v=f a) {vs:List V} {as:List α} (l:vs.length=(as.map g).length)
    (e:∀ (i:Nat) (v:V) (d:Dt),vs[i]?=some v->(as.map g)[i]?=some d->Rp H F n v d):vs=as.map f:=by
  refine List.ext_getElem (by simpa using l) λ i h1 h2=> ?_;have h3:i<as.length:=by simpa using h2
  rw [List.getElem_map];exact uniq _ _ (e i vs[i] (g as[i]) (by simp [h1]) (by simp [h3]))
theorem NE (a:Nat) (v:V) (r:Rp H F n v (dN a)):v=nV a:=by cases r;rfl
theorem Nl (a:Str) (v:V) (r:Rp H F n v (.str a)):v= .str a:=by cases r;rfl
theorem Gr {ns:List Nat} (r:Rp H F n v (dL ns)):∃ a,v= .ref a/\H a=some (.lst (ns.map nV))/\F a/\ns.length<=100000:=by
  unfold dL at r;cases r with
  | @lst m a vs _ h f b l e=>
    have q:=Fz (f:=nV) (λ a v r=>NE a v r) l e;subst q;exact ⟨a,rfl,h,f,by simpa using b⟩
theorem Hg {ns:List Nat} (r:Rp H F n v (dT ns)):∃ a,v= .ref a/\H a=some (.tup (ns.map nV))/\ns.length<=100000:=by
  unfold dT at r;cases r with
  | @tup m a vs _ h b l e=>
    have q:=Fz (f:=nV) (λ a v r=>NE a v r) l e;subst q;exact ⟨a,rfl,h,by simpa using b⟩
theorem IZ {zs:List Str} (r:Rp H F n v (dS zs)):∃ a,v= .ref a/\H a=some (.lst (zs.map V.str))/\F a/\zs.length<=100000:=by
  unfold dS at r;cases r with
  | @lst m a vs _ h f b l e=>
    have q:=Fz (f:=V.str) (λ a v r=>Nl a v r) l e;subst q;exact ⟨a,rfl,h,f,by simpa using b⟩
theorem Jt {zs:List Str} (r:Rp H F n v (dST zs)):∃ a,v= .ref a/\H a=some (.tup (zs.map V.str))/\zs.length<=100000:=by
  unfold dST at r;cases r with
  | @tup m a vs _ h b l e=>
    have q:=Fz (f:=V.str) (λ a v r=>Nl a v r) l e;subst q;exact ⟨a,rfl,h,by simpa using b⟩
theorem Ju {α:Type} {f:α->V} {g:α->Dt} {as:List α} (k:∀ a∈as,Rp H F n (f a) (g a)):∀ (i:Nat) (v:V) (d:Dt),(as.map f)[i]?=some v->(as.map g)[i]?=some d->Rp H F n v d:=by
  intro i v d h1 h2;rw [List.getElem?_map] at h1 h2;cases e:as[i]? with
  | none=>rw [e] at h1;cases h1
  | some a=>
    rw [e] at h1 h2;cases h1;cases h2;exact k a (List.mem_of_getElem? e)
theorem J3 {a:Addr} {ns:List Nat} (h:H a=some (.lst (ns.map nV))) (f:F a) (b:ns.length<=100000):Rp H F (n+1) (.ref a) (dL ns):= .lst h f (by simpa using b) (by simp) (Ju λ k _=> .int _)
theorem RL {a:Addr} {ns:List Nat} (h:H a=some (.tup (ns.map nV))) (b:ns.length<=100000):Rp H F (n+1) (.ref a) (dT ns):= .tup h (by simpa using b) (by simp) (Ju λ k _=> .int _)
theorem NX {a:Addr} {zs:List Str} (h:H a=some (.lst (zs.map V.str))) (f:F a) (b:zs.length<=100000):Rp H F (n+1) (.ref a) (dS zs):= .lst h f (by simpa using b) (by simp) (Ju λ k _=> .str _)
theorem PY {a:Addr} {zs:List Str} (h:H a=some (.tup (zs.map V.str))) (b:zs.length<=100000):Rp H F (n+1) (.ref a) (dST zs):= .tup h (by simpa using b) (by simp) (Ju λ k _=> .str _)
theorem C4 {ds:List Dt} (r:Rp H F n v (.lst ds)):∃ m a vs,n=m+1/\v= .ref a/\H a=some (.lst vs)/\F a/\vs.length=ds.length/\vs.length<=100000/\∀ i,i<ds.length->Rp H F m (vs.getD i .non) (ds.getD i .non):=by
  cases r with
  | @lst m a vs _ h f b l e=>
    refine ⟨m,a,vs,rfl,rfl,h,f,l,b,λ i hi=>e i _ _ ?_ ?_⟩
    · rw [List.getD_eq_getElem?_getD,List.getElem?_eq_getElem (by omega)];rfl
    · rw [List.getD_eq_getElem?_getD,List.getElem?_eq_getElem hi];rfl
theorem HG {ds:List Dt} (r:Rp H F n v (.tup ds)):∃ m a vs,n=m+1/\v= .ref a/\H a=some (.tup vs)/\vs.length=ds.length/\vs.length<=100000/\∀ i,i<ds.length->Rp H F m (vs.getD i .non) (ds.getD i .non):=by
  cases r with
  | @tup m a vs _ h b l e=>
    refine ⟨m,a,vs,rfl,rfl,h,l,b,λ i hi=>e i _ _ ?_ ?_⟩
    · rw [List.getD_eq_getElem?_getD,List.getElem?_eq_getElem (by omega)];rfl
    · rw [List.getD_eq_getElem?_getD,List.getElem?_eq_getElem hi];rfl
theorem getD_map {α β:Type} (f:α->β) (as:List α) (i:Nat) (x:β) (y:α) (h:i<as.length):(as.map f).getD i x=f (as.getD i y):=by simp [List.getD_eq_getElem?_getD,h]
theorem Fv {zs:List Str} {i:Nat} (h:i<(zs.map V.str).length):(zs.map V.str).getD i .non= .str (zs.getD i Str.empty):=getD_map V.str zs i .non Str.empty (by simpa using h)
theorem getD_mem {α:Type} {as:List α} {i:Nat} {y:α} (h:i<as.length):as.getD i y∈as:=by
  rw [List.getD_eq_getElem?_getD,List.getElem?_eq_getElem h];exact List.getElem_mem h
theorem AX {α β:Type} (f:α->β) (as:List α) (y:α):(List.range as.length).map (λ i=>f (as.getD i y))=as.map f:=Bq f as y
end
theorem Rp.ins {H:Hp} {F:Addr->Prop} {n:Nat} {v:V} {d:Dt} {x C dx:Addr} {fs:List (Str × V)} {o:HO} (r:Rp H F n v d) (h:H x=some (.ins C dx fs)):Rp (L2.upd H x o) F n v d:=by
  induction r with
  | non=>exact .non
  | bl b=>exact .bl b
  | int i=>exact .int i
  | str z=>exact .str z
  | @lst n a vs ds q f b l e ih=>
    refine .lst ?_ f b l ih;rw [As (DP q h (by intro z;cases z))];exact q
  | @tup n a vs ds q b l e ih=>
    refine .tup ?_ b l ih;rw [As (DP q h (by intro z;cases z))];exact q
def But (x:Addr) (H H':Hp):Prop:=∀ b o,H b=some o->b≠x->H' b=some o
theorem But.same {x:Addr} {H H1 H2:Hp} (b:But x H H1) (s:Same H1 H2):But x H H2:=λ a o e n=>s _ _ (b a o e n)
theorem But.of {x:Addr} {H H1:Hp} (s:Same H H1):But x H H1:=λ a o e _=>s _ _ e
theorem But.put {x:Addr} {H H1:Hp} {o:HO} (b:But x H H1):But x H (upd H1 x o):=λ a u e n=>by rw [As n];exact b a u e n
theorem But.rp {x:Addr} {H H':Hp} {F:Addr->Prop} {n:Nat} {v:V} {d:Dt} {C dx:Addr} {fs:List (Str × V)} (k:But x H H') (h:H x=some (.ins C dx fs)) (r:Rp H F n v d):Rp H' F n v d:=by
  induction r with
  | non=>exact .non
  | bl b=>exact .bl b
  | int i=>exact .int i
  | str z=>exact .str z
  | @lst n a vs ds q f b l e ih=>exact .lst (k _ _ q (DP q h (by intro z;cases z))) f b l ih
  | @tup n a vs ds q b l e ih=>exact .tup (k _ _ q (DP q h (by intro z;cases z))) b l ih
theorem Rp.tupd {H:Hp} {F:Addr->Prop} {n:Nat} {D t:Addr} {ds:List Dt} {ys:List V} (r:Rp H F (n+1) (.ref D) (.lst ds)) (hl:H D=some (.lst ys)) (ht:H t=none):Rp (L2.upd H t (.tup ys)) F (n+1) (.ref t) (.tup ds):=by
  cases r with
  | @lst _ _ vs _ q f b l ee=>
    rw [hl] at q;cases q;exact .tup Ag b l λ i v e h1 h2=>(ee i v e h1 h2).new ht
theorem P6 (ls:List (List Nat)):(List.range ls.length).map (λ i=>dT (ls.getD i []))=ls.map dT:=Bq dT ls []
theorem NI (ls:List (List Nat)):(List.range ls.length).map (λ i=>dL (ls.getD i []))=ls.map dL:=Bq dL ls []
section
variable {H:Hp} {a:Addr} {kvs:List (Key × V)}
end
theorem Fs {xs:List V} {k:Int} (h:0<=k):Fn xs (some k) none=xs.drop k.toNat:=by
  unfold Fn;have e2:HT.sIx xs.length xs.length none=xs.length:=rfl;rw [e2];have e1:HT.sIx xs.length 0 (some k)=min k.toNat xs.length:=by
    unfold HT.sIx;simp only;split <;> omega
  rw [e1];by_cases q:k.toNat<=xs.length
  · rw [Nat.min_eq_left q,List.take_of_length_le (by simp)]
  · rw [Nat.min_eq_right (by omega),List.drop_of_length_le (Nat.le_refl _),List.drop_of_length_le (by omega)];simp
theorem Lg {xs:List V} {k:Int} (h:0<=k):Fn xs none (some k)=xs.take k.toNat:=by
  unfold Fn;have e2:HT.sIx xs.length 0 none=0:=rfl;rw [e2,List.drop_zero];have e1:HT.sIx xs.length xs.length (some k)=min k.toNat xs.length:=by
    unfold HT.sIx;simp only;split <;> omega
  rw [e1,Nat.sub_zero];by_cases q:k.toNat<=xs.length
  · rw [Nat.min_eq_left q]
  · rw [Nat.min_eq_right (by omega),List.take_of_length_le (Nat.le_refl _),List.take_of_length_le (by omega)]
section
variable {K:PySem.W.Frag} {wi:TI} {own:List Str} {fr:List (Str × Nat)} {g:TG} {tc:TT} {te tl:TE} {tb:TS} {D:Ends} {σ:St} {H:Hp} {Q:VK} {R:It->Hp->Prop} {ta:TA}
theorem O8 (h:wi σ H λ J H1=>∀ D,H1 D=none->DW J (FK own fr σ) g tc te Q H1 D):IU wi own fr g tc te σ H Q:=h
theorem Rv (h:wi σ H λ J H1=>∃ W:Nat->Nat->St->Hp->Prop,(∃ m,W 0 m σ H1)/\∀ i m σ H,W i m σ H->
  (J.stop i H/\D.nx σ H)\/(J.go i H/\∃ N:St->Hp->Prop,(∀ σ' H',N σ' H'->∃ m',m'<m/\W (i+1) m' σ' H')/\∀ x H',J.yld i H x H'->g x σ H' λ σ2 H2=>tb { D with nx:=N,ct:=N,bk:=D.nx } σ2 H2)):Ro wi g tb D σ H:=h
theorem V2 (h:tl σ H λ x H1=>∃ a,x= .ref a/\(∃ xs,SqL K H1 a xs)/\R (Itl K a) H1):Md K tl σ H R:=h
theorem SU (h:tl σ H λ x H1=>∃ a,x= .ref a/\(∃ xs,SqT K H1 a xs)/\R (Itt K a) H1):RC K tl σ H R:=h
theorem U1 (h:te σ H λ x H1=>∃ z,x= .str z/\R (Its z) H1):TV te σ H R:=h
theorem UL (h:ta σ H λ vs H1=>∃ a,vs=[.ref a]/\(∃ xs,SqL K H1 a xs)/\R (Ite K a) H1):PX K ta σ H R:=h
theorem Vw (h:ta σ H λ vs H1=>∃ tp a,vs=[.ref a]/\(∃ xs,SqS tp K H1 a xs)/\R (Pe tp K a) H1):NU K ta σ H R:=h
theorem Tj (h:ta σ H λ vs H1=>∃ t1 t2 a b,vs=[.ref a, .ref b]/\(∃ xs,SqS t1 K H1 a xs)/\(∃ ys,SqS t2 K H1 b ys)/\R (Izs t1 t2 K a b) H1):iZs K ta σ H R:=h
theorem Te (h:ta σ H λ vs H1=>∃ j:Int,vs=[.int j]/\ -(2 ^ 62)<=j/\j<2 ^ 62/\R (Itr 0 j.toNat) H1):PF ta σ H R:=h
theorem UM (h:ta σ H λ vs H1=>∃ i j:Int,vs=[.int i, .int j]/\(-(2 ^ 62)<=i/\i<2 ^ 62/\ -(2 ^ 62)<=j/\j<2 ^ 62)/\R (Itr i (j - i).toNat) H1):P3 ta σ H R:=h
theorem UZ (h:ta σ H λ vs H1=>∃ i j c:Int,vs=[.int i, .int j, .int c]/\(-(2 ^ 40)<=i/\i<2 ^ 40)/\(-(2 ^ 40)<=j/\j<2 ^ 40)/\(-(2 ^ 20)<=c/\c<2 ^ 20)/\c≠0/\R (Itc i c (Builtin.Range.rangeSize i j c).toNat) H1):PQ ta σ H R:=h
end
theorem OA {K:PySem.W.Frag} {n:Nat} {t:TGs} {a:Addr} {xs:List V} {σ:St} {H:Hp} {QS:St->Hp->Prop} (h:SqT K H a xs) (l:xs.length=n) (k:t xs σ H QS):HI K n t (.ref a) σ H QS:=⟨a,xs,rfl,h,l,k⟩
theorem Nd {t:TG} {u:TGs} {v:V} {vs:List V} {σ:St} {H:Hp} {QS:St->Hp->Prop} (k:t v σ H λ σ' H'=>u vs σ' H' QS):BN t u (v::vs) σ H QS:=⟨v,vs,rfl,k⟩
theorem O0 {σ:St} {H:Hp} {QS:St->Hp->Prop} (k:QS σ H):HR [] σ H QS:=⟨rfl,k⟩
theorem Cq {J:It} {g:TG} {H0 H:Hp} {n:Nat} {set:Nat->St->St} {tb:TS} {D:Ends} {σ:St} (S:FSrc J g H0 n set) (Pv:Nat->St->Hp->Prop) (h0:Pv 0 σ H) (hk:∀ i σ H',Pv i σ H'->Same H0 H')
    (hs:∀ i σ H' H3,i<n->Pv i σ H'->Same H' H3->tb { D with nx:=Pv (i+1),ct:=Pv (i+1),bk:=D.nx } (set i σ) H3) (hd:∀ σ H',Pv n σ H'->D.nx σ H'):
    ∃ W:Nat->Nat->St->Hp->Prop,(∃ m,W 0 m σ H)/\∀ i m σ H,W i m σ H->
      (J.stop i H/\D.nx σ H)\/(J.go i H/\∃ N:St->Hp->Prop,(∀ σ' H',N σ' H'->∃ m',m'<m/\W (i+1) m' σ' H')/\∀ x H',J.yld i H x H'->g x σ H' λ σ2 H2=>tb { D with nx:=N,ct:=N,bk:=D.nx } σ2 H2):=by
  refine ⟨λ i m σ H'=>m=n - i/\i<=n/\Pv i σ H',⟨n,by simp,Nat.zero_le _,h0⟩,?_⟩;rintro i m σ H1 ⟨rfl,hi,p⟩;by_cases hlt:i<n
  · exact .inr ⟨S.go i H1 hlt (hk _ _ _ p),Pv (i+1),λ σ' H' p'=>⟨n - (i+1),by omega,rfl,hlt,p'⟩,λ x H' y=>S.yld i σ H1 x H' _ hlt (hk _ _ _ p) y λ H3 s3=>hs i σ H1 H3 hlt p s3⟩
  · have e:i=n:=by omega
    subst e;exact .inl ⟨S.stop H1 (hk _ _ _ p),hd σ H1 p⟩
theorem IC {H:Hp} {i1 n:Nat}:FSrc (Itr 0 n) (AS i1) H n (λ i σ=>σ.set i1 (some (.int (i:Nat)))):=by
  have:=FC (H:=H) (i1:=i1) (lo:=0) (n:=n);simpa using this
theorem Hn {n:Nat} {σ0:St} {H:Hp} (h0:σ0[0]?=some none):SrcOk (Itr 0 n) (AS 0) σ0 H n (λ i=>σ0.set 0 (some (.int (i:Nat)))):=by
  have:=IW (H:=H) (lo:=0) (n:=n) h0;simpa using this
theorem Ts {A B:Prop} (h:B):if (!true)=true then A else B:=by simpa using h
theorem RQ {A B:Prop} (h:A):if (!false)=true then A else B:=by simpa using h
theorem LI {H:Hp} {F:Addr->Prop} {n:Nat} {a:Addr} {v0 v1 v2 v3 v4 v5 v6:V} {d0 d1 d2 d3 d4 d5 d6:Dt} (h:H a=some (.tup [v0,v1,v2,v3,v4,v5,v6])) (r0:Rp H F n v0 d0) (r1:Rp H F n v1 d1) (r2:Rp H F n v2 d2) (r3:Rp H F n v3 d3) (r4:Rp H F n v4 d4) (r5:Rp H F n v5 d5) (r6:Rp H F n v6 d6):
    Rp H F (n+1) (.ref a) (.tup [d0,d1,d2,d3,d4,d5,d6]):=by
  refine .tup h (by simp) rfl λ i v u h1 h2=> ?_
  match i with
  | 0=>cases h1;cases h2;exact r0
  | 1=>cases h1;cases h2;exact r1
  | 2=>cases h1;cases h2;exact r2
  | 3=>cases h1;cases h2;exact r3
  | 4=>cases h1;cases h2;exact r4
  | 5=>cases h1;cases h2;exact r5
  | 6=>cases h1;cases h2;exact r6
  | i+7=>cases h1
theorem Co {α:Type} {xs:List α} {n:Nat} (h:xs.length=n+1):∃ x ys,xs=x::ys/\ys.length=n:=by
  cases xs with
  | nil=>cases h
  | cons x ys=>exact ⟨x,ys,rfl,Nat.succ.inj h⟩
theorem JJ {H:Hp} {F:Addr->Prop} {n:Nat} {v:V} {d0 d1 d2 d3 d4 d5 d6:Dt} (r:Rp H F n v (.tup [d0,d1,d2,d3,d4,d5,d6])):∃ m a v0 v1 v2 v3 v4 v5 v6,n=m+1/\v= .ref a/\H a=some (.tup [v0,v1,v2,v3,v4,v5,v6])/\
    Rp H F m v0 d0/\Rp H F m v1 d1/\Rp H F m v2 d2/\Rp H F m v3 d3/\Rp H F m v4 d4/\Rp H F m v5 d5/\Rp H F m v6 d6:=by
  cases r with
  | @tup m a vs _ h b l e=>
    replace l:vs.length=7:=l;obtain ⟨v0,w0,rfl,l0⟩:=Co l;obtain ⟨v1,w1,rfl,l1⟩:=Co l0;obtain ⟨v2,w2,rfl,l2⟩:=Co l1;obtain ⟨v3,w3,rfl,l3⟩:=Co l2;obtain ⟨v4,w4,rfl,l4⟩:=Co l3;obtain ⟨v5,w5,rfl,l5⟩:=Co l4;obtain ⟨v6,w6,rfl,l6⟩:=Co l5;cases List.eq_nil_of_length_eq_zero l6;exact ⟨m,a,v0,v1,v2,v3,v4,v5,v6,rfl,rfl,h,e 0 _ _ rfl rfl,e 1 _ _ rfl rfl,e 2 _ _ rfl rfl,e 3 _ _ rfl rfl,e 4 _ _ rfl rfl,e 5 _ _ rfl rfl,e 6 _ _ rfl rfl⟩
theorem ifJ {c:TT} {t u:TS} {D:Ends} {σ:St} {H:Hp} (J:St->Hp->Prop) (h1:∀ σ' H',J σ' H'->D.nx σ' H') (h2:(∀ σ' H',J σ' H'->D.nx σ' H')->MF c t u D σ H):MF c t u D σ H:=h2 h1
theorem Jz {α:Type} (f:α->List Nat) (xs:List α):Dt.lst (xs.map λ x=>dL (f x))=dLL (xs.map f):=by unfold dLL;rw [List.map_map];rfl
theorem QD {α:Type} (f:α->Nat) (xs:List α):Dt.lst (xs.map λ x=>dN (f x))=dL (xs.map f):=by unfold dL;rw [List.map_map];rfl
theorem KM {α:Type} (f:α->Str) (xs:List α):Dt.lst (xs.map λ x=>Dt.str (f x))=dS (xs.map f):=by unfold dS;rw [List.map_map];rfl
end L2
namespace L2
theorem LJ {α:Type} {as:List α} {i:Nat} {y:α} (h:i<as.length):as.getD i y=as[i]:=by
  rw [List.getD_eq_getElem?_getD,List.getElem?_eq_getElem h];rfl
end L2
namespace L2
open PySem PySem.Spec PyProof.Rows
def U6 (i j:Int):Prop:=0<j/\j<2 ^ 200
theorem MG {j:Int} (h0:0<j) (h:j<2 ^ 200):j.natAbs.log2<9000:=by
  have h1:j.natAbs<2 ^ 200:=by omega
  have:=(Nat.log2_lt (show j.natAbs≠0 by omega)).mpr h1;omega
theorem Ci {X:Cx}:OpR X (binaryOp .FloorDiv) (rI U6 λ i j=> .int (i / j)):=opI λ i j _ _ _ _ _ hc q=>by
  rw [<-Int.fdiv_eq_ediv_of_nonneg i (by have:=hc.1;omega)] at q;exact floordiv_int (by have:=hc.1;omega) q (.inl (PyProof.noPylong_of_log2 (MG hc.1 hc.2)))
section
variable {prog:Program} {w:World} {A:Around} {E:Value->Shared->Prop} {s:Shared} {T:String} {r d:Addr} {n:Nat} {P:Nat->Value->Prop} {St:Nat->Heap->Prop}
end
section
variable {prog:Program} {w:World} {A:Around} {E:Value->Shared->Prop} {s:Shared}
end
section
variable {X:Cx} {K:PySem.W.Frag} {e o:Expr} {ta:TA} {to:TE} {p p2 pos pos2 apos cpos:Pos}
end
section
variable {X:Cx} {K:PySem.W.Frag} {e o:Expr} {es:List Expr} {ta to:TE} {t:TA} {f name:Str} {pos apos cpos:Pos} {T id:String} {r:V->List V->Hp->VK->Prop}
theorem B7 (he:PE X e ta) (hb:attributeBase e f X.env (eval e X.env)=eval e X.env) (hK:X.K=K:=by rfl):PE X (.Attribute e f pos) (Qv K ta f):=by
  subst hK;exact Rh he hb
theorem MV (pa:PlainAttrs T) (slot:Slot T name id) (hty:typeOf (.builtin id)=pure (.type "method_descriptor")) (hm:MtR X id r) (ho:PE X o to) (hK:X.K=K:=by rfl)
    (hbase:attributeBase o name X.env (eval o X.env)=eval o X.env:=by rfl) (hline:(apos.endLine == cpos.line)=true:=by rfl):PE X (.Call (.Attribute o name apos) [] [] cpos) (Qy K T r to):=by
  subst hK;exact Q7 pa slot hty hm ho hbase hline
theorem AW (pa:PlainAttrs T) (slot:Slot T name id) (hty:typeOf (.builtin id)=pure (.type "method_descriptor")) (hm:MtR X id r) (ho:PE X o to) (ha:PA X (e::es) t) (hK:X.K=K:=by rfl)
    (hbase:attributeBase o name X.env (eval o X.env)=eval o X.env:=by rfl)
    (hfew:((backTo cpos (starEach (e::es) X.env)).all (λ x=> !x.1)&&(backToKw cpos (keywordEach [] X.env)).all (λ x=>x.1.isSome)
      && decide ((e::es).length+([]:List Keyword).length+(if ([]:List Keyword).isEmpty then 0 else 1)<30))=true:=by rfl)
    (hline:(apos.endLine == cpos.line)=true:=by rfl) (hs:starEach (e::es) X.env=(false,eval e X.env)::starEach es X.env:=by rfl) (hplain:(backTo cpos (starEach es X.env)).any (·.1)=false:=by rfl):
    PE X (.Call (.Attribute o name apos) (e::es) [] cpos) (tBM K T r to t):=by
  subst hK;exact Tn pa slot hty hm ho ha hbase hfew hline hs hplain
end
def IsRvd (h:Heap) (a l:Addr) (i:Int):Prop:=∃ o,h.get? a=some o/\o.cls= .type "reversed"/\o.data= .fields #[.ref l,rawInt i]
section
variable {prog:Program} {w:World} {A:Around} {E:Value->Shared->Prop} {s:Shared}
theorem IsRvd.at {h h':Heap} {a l:Addr} {i:Int} (x:IsRvd h a l i) (e:∀ o,h.get? a=some o->h'.get? a=some o):IsRvd h' a l i:=let ⟨o,ho,r⟩:=x;⟨o,e _ ho,r⟩
end
section
variable {X:Cx} {K:PySem.W.Frag} {e o:Expr} {ta:TA} {to:TE} {p p2 pos pos2 apos cpos:Pos}
end
def Si (P:Program) (w:World) (K:PySem.W.Frag) (mg:Str->Option Value) (base:Heap) (k:Nat) (f:Addr) (sp:Sp):Prop:=
  ∃ fd ps,PySem.W.keepIn K (.ref f)=true/\FnOk P w K mg base CX0 k f fd ps sp/\Binds K fd ps []
theorem CallF.val {P:Program} {w:World} {K:PySem.W.Frag} {mg:Str->Option Value} {base:Heap} {x:Str} {k:Nat} {ps:List Str} {sp:Sp} (h:CallF P w K mg base x k ps sp):∃ f,mg x=some (.ref f)/\Si P w K mg base k f sp:=
  let ⟨f,fd,hm,hk,F,hb⟩:=h;⟨f,hm,fd,ps,hk,F,hb⟩
section
variable {X:Cx} {k:Nat} {e o:Expr} {es:List Expr} {t:TA} {to:TE} {pos:Pos} {S:Addr->Sp->Prop}
end
theorem arg1 {α:Type} {P:List α->Prop} (h:∀ a0,P [a0]):∀ us:List α,us.length=1->P us:=λ us hl=>match us,hl with | [a0],_=>h a0
theorem arg2 {α:Type} {P:List α->Prop} (h:∀ a0 a1,P [a0,a1]):∀ us:List α,us.length=2->P us:=λ us hl=>match us,hl with | [a0,a1],_=>h a0 a1
theorem arg3 {α:Type} {P:List α->Prop} (h:∀ a0 a1 a2,P [a0,a1,a2]):∀ us:List α,us.length=3->P us:=λ us hl=>match us,hl with | [a0,a1,a2],_=>h a0 a1 a2
theorem arg4 {α:Type} {P:List α->Prop} (h:∀ a0 a1 a2 a3,P [a0,a1,a2,a3]):∀ us:List α,us.length=4->P us:=λ us hl=>match us,hl with | [a0,a1,a2,a3],_=>h a0 a1 a2 a3
theorem arg5 {α:Type} {P:List α->Prop} (h:∀ a0 a1 a2 a3 a4,P [a0,a1,a2,a3,a4]):∀ us:List α,us.length=5->P us:=λ us hl=>match us,hl with | [a0,a1,a2,a3,a4],_=>h a0 a1 a2 a3 a4
theorem arg6 {α:Type} {P:List α->Prop} (h:∀ a0 a1 a2 a3 a4 a5,P [a0,a1,a2,a3,a4,a5]):∀ us:List α,us.length=6->P us:=λ us hl=>match us,hl with | [a0,a1,a2,a3,a4,a5],_=>h a0 a1 a2 a3 a4 a5
theorem arg7 {α:Type} {P:List α->Prop} (h:∀ a0 a1 a2 a3 a4 a5 a6,P [a0,a1,a2,a3,a4,a5,a6]):∀ us:List α,us.length=7->P us:=λ us hl=>match us,hl with | [a0,a1,a2,a3,a4,a5,a6],_=>h a0 a1 a2 a3 a4 a5 a6
theorem arg8 {α:Type} {P:List α->Prop} (h:∀ a0 a1 a2 a3 a4 a5 a6 a7,P [a0,a1,a2,a3,a4,a5,a6,a7]):∀ us:List α,us.length=8->P us:=λ us hl=>match us,hl with | [a0,a1,a2,a3,a4,a5,a6,a7],_=>h a0 a1 a2 a3 a4 a5 a6 a7
theorem arg9 {α:Type} {P:List α->Prop} (h:∀ a0 a1 a2 a3 a4 a5 a6 a7 a8,P [a0,a1,a2,a3,a4,a5,a6,a7,a8]):∀ us:List α,us.length=9->P us:=λ us hl=>match us,hl with | [a0,a1,a2,a3,a4,a5,a6,a7,a8],_=>h a0 a1 a2 a3 a4 a5 a6 a7 a8
structure BlkScopeC (X:Cx) (scope:Scope) (cx:Str) (own:List Str) (fr:List (Str × Nat)):Prop where
  kind:scope.kind= .function
  onec:∀ y∈scope.names,y.2= .cell->y.1=cx
  isc:scope.names.lookup cx=some .cell
  lay:∀ n cl,cellsFrom n scope.names cl=(cx,n)::cl
  push:∀ h:Heap,pushCells h scope.names=h.push { cls:= .type "cell",data:= .cell none }
  loc:∀ y∈scope.names,y.2= .local->scope.names.lookup y.1=some .local
  free:∀ y∈scope.names,y.2= .free->(X.env.scope.names.lookup y.1=some .cell\/X.env.scope.names.lookup y.1=some .free)
  fr:∀ p∈fr,X.N[p.2]?=some p.1/\(p.1,NameKind.free)∈scope.names
  only:∀ x,(x,NameKind.free)∈scope.names->scope.names.lookup x=some .free
section
variable {X:Cx} {pins:List (Addr × Obj)} {σ:St} {H:Hp} {s:Shared} {scope:Scope} {cx:Str} {own:List Str} {fr:List (Str × Nat)} {fp:List Addr}
end
section
variable {X:Cx}
end
section
variable {X:Cx} {scope:Scope} {cx:Str} {own:List Str} {fr:List (Str × Nat)}
end
section
variable {X:Cx} {K:PySem.W.Frag} {scope:Scope} {fr:List (Str × Nat)}
end
section
variable {X:Cx} {e o:Expr} {es:List Expr} {t:TA} {to:TE} {pos:Pos} {S:Addr->Sp->Prop}
end
section
variable {X:Cx} {K:PySem.W.Frag}
end
theorem Oq {xs:List V} {k l:Int} (h:0<=k) (h2:k<=l):Fn xs (some k) (some l)=(xs.take l.toNat).drop k.toNat:=by
  unfold Fn;have e1:HT.sIx xs.length 0 (some k)=min k.toNat xs.length:=by
    unfold HT.sIx;simp only;split <;> omega
  have e2:HT.sIx xs.length xs.length (some l)=min l.toNat xs.length:=by
    unfold HT.sIx;simp only;split <;> omega
  rw [e1,e2];by_cases q:k.toNat<=xs.length
  · rw [Nat.min_eq_left q];by_cases q2:l.toNat<=xs.length
    · rw [Nat.min_eq_left q2,List.drop_take]
    · rw [Nat.min_eq_right (by omega),List.take_of_length_le (l:=xs) (by omega),List.take_of_length_le (by simp)]
  · rw [List.drop_of_length_le (by omega),List.drop_of_length_le (by simp;omega)];simp
end L2
namespace HT
open PySem PySem.Spec PyProof.Rows
variable {prog:Program} {w:World} {A:Around} {E:Value->Shared->Prop} {s:Shared}
end HT
namespace L2
open PySem PySem.Spec PyProof.Rows
theorem F9 (as bs:List Str):E6 (as.map V.str) (bs.map V.str)=decide (as=bs):=by
  rw [Bool.eq_iff_iff,decide_eq_true_iff];unfold E6;simp only [Bool.and_eq_true,beq_iff_eq,List.length_map,List.all_eq_true,List.mem_range];constructor
  · rintro ⟨h1,h2⟩;refine List.ext_getElem h1 λ i ha hb=> ?_;have h3:=h2 i ha;rw [Fv (by simpa using ha),Fv (by simpa using hb)] at h3;have h4:(as.getD i Str.empty == bs.getD i Str.empty)=true:=h3;rw [beq_iff_eq,LJ ha,LJ hb] at h4;exact h4
  · rintro rfl;refine ⟨rfl,λ i hi=> ?_⟩;rw [Fv (by simpa using hi)];show (as.getD i Str.empty == as.getD i Str.empty)=true;rw [beq_iff_eq]
theorem DF {K:PySem.W.Frag} {H:Hp} {Q:VK} {l p:Addr} {as bs:List Str} (c:SqL K H l (as.map V.str)) (d:SqL K H p (bs.map V.str)) (h:Q (.bl (decide (as=bs))) H):JH K false (.ref l) (.ref p) H Q:=
  ⟨l,p,_,_,rfl,rfl,c,d,by simp [Bf],by simp [Bf],by rw [F9];exact h⟩
def Nf (tk tv:TE):TE:=λ σ H Q=>∀ p,H p=none->E9 [(tk,tv)] σ (upd H p (.dT [])) λ ps H2=>∃ x y,ps=[(x,y)]/\∃ b ks,x= .ref b/\H2 b=some (.tup (List.map kV ks))/\H2 p=some (.dT [])/\Q (.ref p) (upd H2 p (.dT [(ks,y)]))
theorem Nt {tk tv:TE} {σ:St} {H:Hp} {Q:VK} (h:∀ p,H p=none->E9 [(tk,tv)] σ (upd H p (.dT [])) λ ps H2=>∃ x y,ps=[(x,y)]/\∃ b ks,x= .ref b/\H2 b=some (.tup (List.map kV ks))/\H2 p=some (.dT [])/\Q (.ref p) (upd H2 p (.dT [(ks,y)]))):Nf tk tv σ H Q:=h
theorem Nq {X:Cx} {pos:Pos} {k v:Expr} {tk tv:TE} (hu:X.A.units+1<cLine) (hk:PE X k tk) (hv:PE X v tv):PE X (.Dict [some k] [v] pos) (Nf tk tv):=by
  intro pins s σ H Q I q;have hn:=I.hok.fresh (Nat.le_refl s.heap.objs.size);have I1:=I.laid (a:=s.heap.objs.size) (o:= .dT []) (h':=s.heap.push { cls:= .type "dict",data:= .dict #[] }) (t':=s.toks) (λ _ _ q=>Heap.get?_push_of_some _ q) (Nat.le_refl _) (NA s.heap I.big);have hp:=N2 (pos:=pos) hk hv (O5 (X:=X) (pos:=pos));refine wpAny_Dict_any rfl rfl (by simp) (by simp) (thn (hp pins _ σ _ _ I1 (q _ hn)) λ ws s2 ⟨ps,H2,I2,rel,x,y,ep,b,ks,ex,eb,e,q2⟩=> ?_)
  · subst ep ex;cases rel with
    | @cons _ w _ _ rw rr=>
      cases rr;obtain ⟨u,r⟩:=w;obtain ⟨ru,rv⟩:=rw;cases (show u=Value.ref b from ru);obtain ⟨z,hd,xs,rel,dd⟩:=PU I2.hok e;cases rel;show wpAny _ _ (forIn [(Value.ref b,r)] PUnit.unit _) _ _ _;rw [List.forIn_cons];refine wpAny_bind (wpAny_bind (wpAny_dictSet_heap (hsz:=by simp) ?_ (Jo I2.hok eb) dd λ h' dd' hs=>wpAny_pure ?_))
      · show X.A.units<cLine;omega
      · show wpAny _ _ (pure PUnit.unit) _ _ _;refine wpAny_pure ?_;refine ⟨.ref s.heap.objs.size,_,?_,rfl,q2⟩;obtain ⟨q',es,ep,hq,h2,h3,h4,_,h5⟩:=dd';refine JC I2 (by rw [e];exact True.intro) hs ⟨q',hq⟩ ⟨by show 1<=sizeLine;decide,hd,_,?_,q',es,ep,hq,h2,h3,h4,h5⟩;exact .cons ⟨rfl,(As (DP eb e (λ z=>nomatch z))).trans eb,rv⟩ .nil
def DK {α:Type}:Sem α->Prop
  | .rule _ k=>DK (k ())
  | .at _ k=>DK (k ())
  | .load _ _ k=>∀ o,DK (k o)
  | .update _ _ f k=>(∀ o,(f o).dict=o.dict)/\DK (k ())
  | .loadIfAlive _ k=>∀ o,DK (k o)
  | .point _ k=>DK (k ())
  | .alloc _ k=>∀ a,DK (k a)
  | .fresh k=>∀ t,DK (k t)
  | .ask k=>∀ t,DK (k t)
  | .choose _ _ k=>∀ t,DK (k t)
  | .os _ _ k=>∀ t,DK (k t)
  | .call .. => False
  | .handled _ k=>∀ t,DK (k t)
  | .genState _ k=>∀ t,DK (k t)
  | .newGen _ k=>∀ t,DK (k t)
  | .resume .. => False
  | .stack k=>∀ t,DK (k t)
  | .thread k=>∀ t,DK (k t)
  | _=>True
def KD (h h':Heap):Prop:=∀ (b:Nat) (o:Obj),h.objs[b]?=some o->∃ o',h'.objs[b]?=some o'/\o'.dict=o.dict
theorem KD.trans {h h1 h2:Heap} (a:KD h h1) (b:KD h1 h2):KD h h2:=λ c o e=>by
  obtain ⟨o1,e1,d1⟩:=a c o e;obtain ⟨o2,e2,d2⟩:=b c o1 e1;exact ⟨o2,e2,d2.trans d1⟩
theorem MZ {h:Heap} {b:Addr} {o:Obj} (e:h.get? b=some o):h.objs[b]?=some o:=by
  unfold Heap.get? at e;split at e
  · cases e
  · exact e
theorem KD.at' {h h':Heap} (k:KD h h') {b:Addr} {o o':Obj} (e:h.get? b=some o) (e':h'.get? b=some o'):o'.dict=o.dict:=by
  obtain ⟨o1,e1,d1⟩:=k b o (MZ e);rw [MZ e'] at e1;cases e1;exact d1
theorem KD.push (h:Heap) (o:Obj):KD h (h.push o):=λ b u e=>by
  refine ⟨u,?_,rfl⟩;show (h.objs.push o)[b]?=some u;have hb:b<h.objs.size:=(Array.getElem?_eq_some_iff.mp e).1;rw [Array.getElem?_push_lt hb];rw [Array.getElem?_eq_getElem hb] at e;exact e
theorem DK.bind {α β:Type} {f:α->Sem β}:∀ {t:Sem α},DK t->(∀ a,DK (f a))->DK (t >>= f):=by
  intro t;show _->_->DK (Sem.bind t f)
  induction t with
  | pure a=>intro _ h;exact h a
  | raise e=>intro _ _;trivial
  | unsupported w=>intro _ _;trivial
  | finish e=>intro _ _;trivial
  | rule t k ih=>intro d h;exact ih () d h
  | «at» t k ih=>intro d h;exact ih () d h
  | load a part k ih=>intro d h o;exact ih o (d o) h
  | update a part f k ih=>intro d h;exact ⟨d.1,ih () d.2 h⟩
  | alloc o k ih=>intro d h a;exact ih a (d a) h
  | loadIfAlive a k ih=>intro d h o;exact ih o (d o) h
  | point l k ih=>intro d h;exact ih () d h
  | register a k ih=>intro _ _;trivial
  | fresh k ih=>intro d h o;exact ih o (d o) h
  | ask k ih=>intro d h o;exact ih o (d o) h
  | choose a n k ih=>intro d h o;exact ih o (d o) h
  | os a n k ih=>intro d h o;exact ih o (d o) h
  | call c a b l k ih=>intro d h;exact d.elim
  | handled a k ih=>intro d h o;exact ih o (d o) h
  | newGen c k ih=>intro d h o;exact ih o (d o) h
  | genState g k ih=>intro d h o;exact ih o (d o) h
  | resume g r l k ih=>intro d h;exact d.elim
  | yield v g l k ih=>intro _ _;trivial
  | stack k ih=>intro d h o;exact ih o (d o) h
  | fork c k ih=>intro _ _;trivial
  | thread k ih=>intro d h o;exact ih o (d o) h
  | await a t b l k ih=>intro _ _;trivial
section
variable {M:Model} {A:Around} {E:Value->Shared->Prop} {s:Shared}
def Re (h:Heap) (a:Addr) (od:Option Addr):Prop:=∃ o,h.get? a=some o/\o.dict=od
end
def Uc (outer:List Env) (s:Shared) (H':Hp) (a C t:Addr) (s':Shared):Prop:=
  ∃ B:Heap,B.FlyingW outer a (.ref C) (.ref t) s'.heap/\∀ b,(H' b≠none\/∃ o,s.heap.get? b=some o)->b∉frs outer->∀ o,s'.heap.get? b=some o->B.get? b=some o
def CXE (P:Program) (w:World):CXT:=λ outer H s E e s'=>
  ∃ a C t od H',e= .ref a/\s'.os=s.os/\AllBare s'.gens/\Un (frs outer) [] H H' s.heap s'.heap/\HOk P w H' s'.heap/\Uc outer s H' a C t s'/\Re s'.heap a od/\E (.ref C) od H'
theorem Fy {env:Env} {L:Addr} {outer:List Env} (h:env.frame=some L):frs (env::outer)=L::frs outer:=by
  unfold frs;rw [List.filterMap_cons,h]
theorem B2 {h base:Heap}:∀ {l:List Env} {b:Addr},h.FunFrames base l->b∈frs l->base.get? b=none/\∃ o,h.get? b=some o/\∀ vs,o.data≠ .fields vs
  | [],b,_,hb=>by cases hb
  | env::l,b,⟨_,⟨L,o,e1,e2,e3,e4⟩,r⟩,hb=>by
    rw [Fy e1] at hb;rcases List.mem_cons.mp hb with rfl | hb
    · exact ⟨e2,o,e3,e4⟩
    · exact B2 r hb
end L2
namespace MSort
open PySem.W PyProof.Rows
def KP (lt:Nat->Nat->Bool) (n:Nat) {α:Type}:KasT α->(α->Prop)->Prop
  | .ret a,Q=>Q a
  | .ask i j k,Q=>i<n/\j<n/\KP lt n (k (lt i j)) Q
theorem Fp {lt:Nat->Nat->Bool} {n:Nat} {α β:Type} {f:α->KasT β} {Q:β->Prop}:∀ (t:KasT α),KP lt n t (λ a=>KP lt n (f a) Q)->KP lt n (t.bind f) Q
  | .ret _,h=>h
  | .ask i j k,h=>⟨h.1,h.2.1,Fp (k (lt i j)) h.2.2⟩
theorem Dk {lt:Nat->Nat->Bool} {n:Nat} {α:Type} {Q Q':α->Prop} (hq:∀ a,Q a->Q' a):∀ (t:KasT α),KP lt n t Q->KP lt n t Q'
  | .ret a,h=>hq a h
  | .ask i j k,h=>⟨h.1,h.2.1,Dk hq (k (lt i j)) h.2.2⟩
structure Ok (n:Nat) (p:Array Nat):Prop where
  size:p.size=n
  perm:p.toList.Perm (List.range n)
theorem Ok.lt {n:Nat} {p:Array Nat} (h:Ok n p) {i:Nat} (hi:i<n):p.getD i 0<n:=by
  have hi':i<p.size:=by rw [h.size];exact hi
  have e:p.getD i 0=p[i]:=by simp [Array.getD,hi']
  rw [e];have:=h.perm.mem_iff.mp (Array.mem_toList_iff.mpr (Array.getElem_mem hi'));exact List.mem_range.mp this
theorem Ok.inj {n:Nat} {p:Array Nat} (h:Ok n p) {i j:Nat} (hi:i<n) (hj:j<n) (e:p.getD i 0=p.getD j 0):i=j:=by
  have hi':i<p.size:=by rw [h.size];exact hi
  have hj':j<p.size:=by rw [h.size];exact hj
  have e1:p.getD i 0=p.toList[i]'(by simpa using hi'):=by simp [Array.getD,hi']
  have e2:p.getD j 0=p.toList[j]'(by simpa using hj'):=by simp [Array.getD,hj']
  rw [e1,e2] at e;have nd:p.toList.Nodup:=h.perm.symm.nodup List.nodup_range;exact (List.getElem_inj nd).mp e
theorem Ok.to {n:Nat} {p q:Array Nat} (h:Ok n p) (hq:q.Perm p):Ok n q:=
  ⟨hq.size_eq.trans h.size,(Array.perm_iff_toList_perm.mp hq).trans h.perm⟩
variable {r:Nat->Nat} {n:Nat} {p:Array Nat}
def K (r:Nat->Nat) (p:Array Nat) (i:Nat):Nat:=r (p.getD i 0)
def Inj (r:Nat->Nat) (n:Nat):Prop:=∀ i j,i<n->j<n->r i=r j->i=j
def L (r:Nat->Nat):Nat->Nat->Bool:=λ i j=>decide (r i<r j)
def Up (r:Nat->Nat) (p:Array Nat) (k:Nat):Prop:=∀ i j,i<j->j<k->K r p i<K r p j
def Dn (r:Nat->Nat) (p:Array Nat) (k:Nat):Prop:=∀ i j,i<j->j<k->K r p j<K r p i
theorem QG (hr:Inj r n) (o:Ok n p) {i j:Nat} (hi:i<n) (hj:j<n) (hij:i≠j):K r p i≠K r p j:=
  λ e=>hij (o.inj hi hj (hr _ _ (o.lt hi) (o.lt hj) e))
theorem FF {p q:Array Nat} {i j:Nat} (h:p[i]?=q[j]?):p.getD i 0=q.getD j 0:=by
  have e:∀ (a:Array Nat) k,a.getD k 0=(a[k]?).getD 0:=λ a k=>by simp
  rw [e,e,h]
theorem Kw {src d:Nat} (hs:src<p.size) (hd:d<=src) (k:Nat):K r (bubble p src d) k=if k=src - d then K r p src else if src - d<k/\k<=src then K r p (k - 1) else K r p k:=by
  have e:=getElem?_bubble hs d hd k;unfold K;by_cases h1:k=src - d
  · rw [if_pos h1] at e ⊢;rw [FF e]
  · rw [if_neg h1] at e ⊢;by_cases h2:src - d<k/\k<=src
    · rw [if_pos h2] at e ⊢;rw [FF e]
    · rw [if_neg h2] at e ⊢;rw [FF e]
theorem P8 {j:Nat} (hj:j<=p.size) (k:Nat):K r (kas_rev p 0 j) k=if k<j then K r p (j - 1 - k) else K r p k:=by
  have e:=getElem?_mirror_all (i:=0) hj k;unfold K kas_rev;by_cases h1:k<j
  · rw [if_pos ⟨Nat.zero_le _,h1⟩] at e;rw [if_pos h1,FF e,show 0+j - 1 - k=j - 1 - k by omega]
  · rw [if_neg (by omega)] at e;rw [if_neg h1,FF e]
theorem asc (hr:Inj r n) (o:Ok n p):∀ (f m:Nat),m+f<=n->1<=m->Up r p m->KP (L r) n (kas_asc p f m) (λ m'=>m<=m'/\m'<=m+f/\Up r p m'/\(m'<m+f->K r p m'<K r p (m' - 1)))
  | 0,m,hm,h1,u=>⟨Nat.le_refl _,Nat.le_refl _,u,λ h=>absurd h (by omega)⟩
  | f+1,m,hm,h1,u=>by
    refine ⟨o.lt (by omega),o.lt (by omega),?_⟩;show KP (L r) n (if L r (p.getD m 0) (p.getD (m - 1) 0)=true then _ else _) _;by_cases c:K r p m<K r p (m - 1)
    · rw [if_pos (show L r (p.getD m 0) (p.getD (m - 1) 0)=true from decide_eq_true c)];exact ⟨Nat.le_refl _,by omega,u,λ _=>c⟩
    · rw [if_neg (show ¬ L r (p.getD m 0) (p.getD (m - 1) 0)=true from λ z=>c (of_decide_eq_true z))];have ne:=QG hr o (i:=m) (j:=m - 1) (by omega) (by omega) (by omega);refine Dk (λ m' h=> ?_) _ (asc hr o f (m+1) (by omega) (by omega) ?_)
      · obtain ⟨h1,h2,h3,h4⟩:=h;exact ⟨by omega,by omega,h3,λ z=>h4 (by omega)⟩
      · intro i j hij hj;by_cases e:j=m
        · subst e;by_cases e':i=j - 1
          · subst e';omega
          · have:=u i (j - 1) (by omega) (by omega);omega
        · exact u i j hij (by omega)
theorem Uu (hr:Inj r n) (o:Ok n p):∀ (f m:Nat),m+f<=n->1<=m->Dn r p m->KP (L r) n (kas_desc f p m 0) (λ x=>x.1=p/\x.2.2=0/\m<=x.2.1/\x.2.1<=m+f/\Dn r p x.2.1)
  | 0,m,hm,h1,u=>⟨rfl,rfl,Nat.le_refl _,Nat.le_refl _,u⟩
  | f+1,m,hm,h1,u=>by
    refine ⟨o.lt (by omega),o.lt (by omega),?_⟩;show KP (L r) n (if L r (p.getD m 0) (p.getD (m - 1) 0)=true then _ else _) _;by_cases c:K r p m<K r p (m - 1)
    · rw [if_pos (show L r (p.getD m 0) (p.getD (m - 1) 0)=true from decide_eq_true c),if_neg (by omega)];refine Dk (λ m' h=> ?_) _ (Uu hr o f (m+1) (by omega) (by omega) ?_)
      · obtain ⟨h1,h2,h3,h4,h5⟩:=h;exact ⟨h1,h2,by omega,by omega,h5⟩
      · intro i j hij hj;by_cases e:j=m
        · subst e;by_cases e':i=j - 1
          · subst e';omega
          · have:=u i (j - 1) (by omega) (by omega);omega
        · exact u i j hij (by omega)
    · rw [if_neg (show ¬ L r (p.getD m 0) (p.getD (m - 1) 0)=true from λ z=>c (of_decide_eq_true z))];have ne:=QG hr o (i:=m) (j:=m - 1) (by omega) (by omega) (by omega);refine ⟨o.lt (by omega),o.lt (by omega),?_⟩;show KP (L r) n (if L r (p.getD (m - 1) 0) (p.getD m 0)=true then _ else _) _;rw [if_pos (show L r (p.getD (m - 1) 0) (p.getD m 0)=true from decide_eq_true (show K r p (m - 1)<K r p m by omega))];exact ⟨rfl,rfl,Nat.le_refl _,Nat.le_add_right _ _,u⟩
theorem Q2:Up r p 1:=λ i j a b=>by omega
theorem S1 (hr:Inj r n) (o:Ok n p) {m:Nat} (h1:1<=m) (hm:m<=n) (d:Dn r p m):KP (L r) n (kas_tail3 m n p) (λ x=>Ok n x.2/\1<=x.1/\x.1<=n/\Up r x.2 x.1):=by
  unfold kas_tail3;have o':Ok n (kas_rev p 0 m):=o.to (mirror_perm _ _ _ _);have u:Up r (kas_rev p 0 m) m:=by
    intro i j hij hj;rw [P8 (by rw [o.size];exact hm),P8 (by rw [o.size];exact hm),if_pos (by omega),if_pos hj];exact d _ _ (by omega) (by omega)
  refine Fp _ (Dk (λ m' h=> ?_) _ (asc hr o' (n - m) m (by omega) h1 u));exact ⟨o',by omega,by omega,h.2.2.1⟩
theorem count (hr:Inj r n) (o:Ok n p) (h0:1<=n):KP (L r) n (kas_count n p) (λ x=>Ok n x.2/\1<=x.1/\x.1<=n/\Up r x.2 x.1):=by
  unfold kas_count;refine Fp _ (Dk (λ m h=> ?_) _ (asc hr o (n - 1) 1 (by omega) (by omega) Q2));obtain ⟨a1,a2,a3,a4⟩:=h;by_cases e:m=n
  · rw [if_pos (by simp [e])];exact ⟨o,a1,by omega,a3⟩
  · rw [if_neg (by simpa using e)];have c:=a4 (by omega);by_cases g:m>1
    · rw [if_pos g];refine ⟨o.lt (by omega),o.lt (by omega),?_⟩;show KP (L r) n (if L r (p.getD 0 0) (p.getD (m - 1) 0)=true then _ else _) _;rw [if_pos (show L r (p.getD 0 0) (p.getD (m - 1) 0)=true from decide_eq_true (show K r p 0<K r p (m - 1) from a3 0 (m - 1) (by omega) (by omega)))];exact ⟨o,a1,by omega,a3⟩
    · rw [if_neg g];have e1:m=1:=by omega
      subst e1;unfold kas_descPart;refine Fp _ (Dk (λ x h=> ?_) _ (Uu hr o (n - (1+1)) (1+1) (by omega) (by omega) ?_))
      · obtain ⟨b1,b2,b3,b4,b5⟩:=h;rw [if_neg (by omega),b1];exact S1 hr o (by omega) (by omega) b5
      · intro i j hij hj;have:i=0/\j=1:=by omega
        obtain ⟨rfl,rfl⟩:=this;exact c
theorem place (hr:Inj r n) (o:Ok n p) {k:Nat} (hk:k<n):∀ (f l h:Nat),h - l<=f->l<=h->h<=k->(∀ i,i<l->K r p i<K r p k)->(∀ i,h<=i->i<k->K r p k<K r p i)->Up r p k->
    KP (L r) n (kas_place p k f l h) (λ x=>x<=k/\(∀ i,i<x->K r p i<K r p k)/\(∀ i,x<=i->i<k->K r p k<K r p i))
  | 0,l,h,e,a,b,c,d,u=>⟨by omega,c,λ i h1 h2=>d i (by omega) h2⟩
  | f+1,l,h,e,a,b,c,d,u=>by
    show KP (L r) n (if l>=h then _ else _) _;by_cases g:l>=h
    · rw [if_pos g];exact ⟨by omega,c,λ i h1 h2=>d i (by omega) h2⟩
    · rw [if_neg g];have hmk:(l+h) / 2<k:=by omega
      refine ⟨o.lt hk,o.lt (by omega),?_⟩;show KP (L r) n (if L r (p.getD k 0) (p.getD ((l+h) / 2) 0)=true then _ else _) _;by_cases z:K r p k<K r p ((l+h) / 2)
      · rw [if_pos (show L r (p.getD k 0) (p.getD ((l+h) / 2) 0)=true from decide_eq_true z)];refine place hr o hk f l _ (by omega) (by omega) (by omega) c (λ i h1 h2=> ?_) u;by_cases e':i=(l+h) / 2
        · rw [e'];exact z
        · have:=u _ i (show (l+h) / 2<i by omega) h2;omega
      · rw [if_neg (show ¬ L r (p.getD k 0) (p.getD ((l+h) / 2) 0)=true from λ y=>z (of_decide_eq_true y))];have ne:=QG hr o hk (show (l+h) / 2<n by omega) (by omega);refine place hr o hk f _ h (by omega) (by omega) (by omega) (λ i h1=> ?_) d u;by_cases e':i=(l+h) / 2
        · rw [e'];omega
        · have:=u i _ (show i<(l+h) / 2 by omega) hmk;omega
theorem bin (hr:Inj r n):∀ (f k:Nat) (p:Array Nat),Ok n p->k+f=n->Up r p k->KP (L r) n (kas_bin f p k) (λ x=>Ok n x/\Up r x n)
  | 0,k,p,o,e,u=>⟨o,(show k=n by omega)▸u⟩
  | f+1,k,p,o,e,u=>by
    refine Fp _ (Dk (λ l h=> ?_) _ (place hr o (k:=k) (by omega) k 0 k (by omega) (by omega) (Nat.le_refl _) (λ i h=>by omega) (λ i h1 h2=>by omega) u));obtain ⟨h1,h2,h3⟩:=h;have hs:k<p.size:=by rw [o.size];omega
    refine bin hr f (k+1) _ (o.to (bubble_perm _ _ _)) (by omega) ?_;intro i j hij hj;rw [Kw hs (by omega),Kw hs (by omega),show k - (k - l)=l by omega];by_cases a:i=l
    · rw [if_pos a,if_neg (by omega),if_pos (by omega)];exact h3 _ (by omega) (by omega)
    · rw [if_neg a];by_cases b:j=l
      · rw [if_pos b,if_neg (by omega)];exact h2 _ (by omega)
      · rw [if_neg b];by_cases c:l<i/\i<=k
        · rw [if_pos c,if_pos (by omega)];exact u _ _ (by omega) (by omega)
        · rw [if_neg c];by_cases d:l<j/\j<=k
          · rw [if_pos d];by_cases e:i<j - 1
            · exact u _ _ e (by omega)
            · omega
          · rw [if_neg d];exact u _ _ hij (by omega)
end MSort
namespace HT
open PySem PySem.Spec PyProof.Rows PySem.W
variable {prog:Program} {w:World} {A:Around} {E:Value->Shared->Prop} {s:Shared}
def RawD (d:Addr) (es:Array DictEntry) (ep:Nat) (h:Heap):Prop:=∃ o,h.get? d=some o/\o.ExactDict/\o.data= .dict es ep
theorem RawD.type {d:Addr} {es:Array DictEntry} {ep:Nat} (x:RawD d es ep s.heap):s.TypeIs (.ref d) "dict":=⟨_,x.choose_spec.1,x.choose_spec.2.1.1⟩
theorem RawD.to {d:Addr} {es:Array DictEntry} {ep:Nat} {h h':Heap} (x:RawD d es ep h) (k:∀ o,h.get? d=some o->h'.get? d=some o):RawD d es ep h':=⟨_,k _ x.choose_spec.1,x.choose_spec.2⟩
end HT
namespace HT
open PySem PySem.Spec PyProof.Rows PySem.W
variable {prog:Program} {w:World} {A:Around} {E:Value->Shared->Prop} {s:Shared}
noncomputable def lexB (x:Str) (i:Int) (y:Str) (j:Int):Bool:=if x=y then decide (i<j) else decide (x.cps.toList<y.cps.toList)
end HT
namespace L2
open PySem PySem.Spec PyProof.Rows PySem.W
structure LexOk (rk:List Key->Nat) (ks:List (List Key)):Prop where
  shp:∀ k∈ks,∃ (x:Str) (i:Int),k=[.inr x, .inl i]
  inj:∀ k∈ks,∀ k'∈ks,rk k=rk k'->k=k'
  ord:∀ (x:Str) (i:Int) (y:Str) (j:Int),([.inr x, .inl i]:List Key)∈ks->([.inr y, .inl j]:List Key)∈ks->HT.lexB x i y j=decide (rk [.inr x, .inl i]<rk [.inr y, .inl j])
end L2
namespace L2
open PySem PySem.Spec PyProof.Rows
section
variable {P:Program} {w:World} {K:PySem.W.Frag} {mg:Str->Option Value} {base:Heap} {N:List Str} {qual:Str} {scope:Scope} {f:Addr} {cd:Value} {A:Around} {outer:List Env} {s₀:Shared} {H₀:Hp} {E:XK}
end
section
variable {X:Cx} {pins:List (Addr × Obj)} {σ:St} {H:Hp} {s s₁:Shared} {E:XK} {e:Value}
end
noncomputable def Cx.tryC (X:Cx) (pn:List (Addr × Obj)) (xe:Value->Shared->Prop):Cx:={ X with pn:=pn,xe:=xe }
section
variable {X:Cx} {pins pins0:List (Addr × Obj)} {σ:St} {H:Hp} {s:Shared} {xe:Value->Shared->Prop}
theorem Inv.tryC (I:Inv X pins σ H s):Inv (X.tryC (X.pn++pins) xe) [] σ H s:=
  ⟨⟨I.ok.mod,I.ok.kind,I.ok.glob,I.ok.blt,I.ok.above,I.ok.inj,I.ok.has,I.ok.cab,I.ok.hd,I.ok.frames,I.ok.stk,I.ok.exf,I.ok.bs,I.ok.bsz,I.ok.noex,I.ok.exfs,I.ok.funs,I.ok.frf⟩,
    I.os,I.bare,I.base,I.loc,I.cell,I.free,I.freeC,λ p hp=>I.pin p (by simpa [Cx.tryC] using hp),I.hok,I.len⟩
theorem Inv.untry (ok:X.Ok) (I:Inv (X.tryC (X.pn++pins0) xe) pins σ H s):Inv X pins0 σ H s:=
  ⟨ok,I.os,I.bare,I.base,I.loc,I.cell,I.free,I.freeC,λ p hp=>I.pin p (List.mem_append_left _ hp),I.hok,I.len⟩
end
end L2
namespace L2
open PySem PySem.Spec PyProof.Rows PySem.W
end L2
namespace HT
open PySem PySem.Spec PyProof.Rows PySem.W PySem.Calls PySem.Builtin PySem.Builtin.ObjectAttr PySem.Builtin.Getset_descriptor
def ExcAt (a C:Addr) (h:Heap):Prop:=∃ o,h.get? a=some o/\o.cls= .ref C
structure ExcKind (K:Frag) (C:Addr):Prop where
  cl:(clsIn K C).isSome=true
  ga:findIn K (.ref C) "__getattribute__"=some (some (.builtin "BaseException.__getattribute__"))
  ng:findIn K (.ref C) "__getattr__"=some none
  hb:mroIn K C (.type "BaseException")=some true
  ha:findIn K (.ref C) "__class__"=some (some (.builtin "object.__class__"))
  hn:specialIn K (.builtin "object.__class__") "__get__"=some (some (.builtin "getset_descriptor.__get__"))
  htk:takesIn K (.builtin "object.__class__")=some true
  hm:mroIn K C (.type "object")=some true
theorem ExcAt.type {M:Model} {h:Heap} {a C:Addr} (x:ExcAt a C h):Looks M h (typeOf (.ref a)) (.ref C):=by
  obtain ⟨o,e,c⟩:=x;exact c▸(Looks.ld e).andThen .now
section
variable {prog:Program} {w:World} {A:Around} {E:Value->Shared->Prop} {s:Shared} {K:Frag} {a C:Addr}
end
end HT
namespace L2
open PySem PySem.Spec PyProof.Rows
end L2
namespace HT
open PySem PySem.Spec PyProof.Rows PySem.W
end HT
namespace L2
open PySem PySem.Spec PyProof.Rows
def CallE (P:Program) (w:World) (K:PySem.W.Frag) (mg:Str->Option Value) (base:Heap) (x:Str) (k:Nat) (ps:List Str) (sp:Sp):Prop:=
  ∃ f fd,mg x=some (.ref f)/\PySem.W.keepIn K (.ref f)=true/\FnOk P w K mg base (CXE P w) k f fd ps sp/\Binds K fd ps []
section
variable {X:Cx} {x:Str} {C:Addr} {k:Nat} {ps:List Str} {sp:Sp} {E:XK} {e:Expr} {es:List Expr} {t:TA} {p pos:Pos}
end
section
variable {P:Program} {w:World} {K:PySem.W.Frag} {mg:Str->Option Value} {base:Heap}
end
end L2
namespace HT
open PySem PySem.Spec PyProof.Rows PySem.SeqAt
open PySem.AutoSeq1 (wpAny_loadPart')
open PySem.MeetsSeq PySem.MeetsSeq2 PySem.MeetsSeq3
section
variable {A:Around} {s:Shared}
end
end HT
namespace L2
open PySem PySem.Spec PyProof.Rows
inductive DX where
  | d (d:Dt) | dic | tdic (rest:List Dt)
inductive Rx (H:Hp) (n:Nat):V->DX->Prop
  | d {v:V} {d:Dt} (r:Rp H FT n v d):Rx H n v (.d d)
  | dic {a:Addr} (h:H a=some (.dK [])):Rx H n (.ref a) .dic
  | tdic {t a:Addr} {ws:List V} {ds:List Dt} (ht:H t=some (.tup (.ref a::ws))) (h:H a=some (.dK [])) (l:ws.length=ds.length) (e:∀ (i:Nat) (v:V) (d:Dt),ws[i]?=some v->ds[i]?=some d->Rp H FT n v d):Rx H n (.ref t) (.tdic ds)
section
variable {X:Cx} {pins:List (Addr × Obj)} {σ:St} {H:Hp} {s:Shared}
end
end L2
namespace L2
open PySem PySem.Spec PyProof.Rows PySem.W
noncomputable def exO (a:Addr) (o:Obj):HO:= .ext λ h=>h.get? a=some o
theorem QX {P:Program} {w:World} {H:Hp} {h:Heap} {a:Addr} {o:Obj} (e:h.get? a=some o):ObjOk P w H h a (exO a o):=⟨e,⟨o,e⟩,λ _ _ x k=>k o x⟩
theorem Ly {P:Program} {w:World} {H:Hp} {h:Heap} {a:Addr} {o:Obj} (x:ObjOk P w H h a (exO a o)):h.get? a=some o:=x.1
noncomputable def cxL (P:Program) (w:World) (K:PySem.W.Frag) (mg:Str->Option Value) (base:Heap) (N:List Str) (qual:Str) (scope:Scope) (f:Addr) (cd:Value) (cl:List (Str × Addr)) (A:Around) (outer:List Env) (s:Shared) (H:Hp) (E:XK):Cx where
  prog:=P
  w:=w
  K:=K
  mg:=mg
  base:=base
  A:=A.deeper (envX qual scope s.heap.objs.size f cd cl)
  N:=N
  s₀:=s
  H₀:=H
  env:=envX qual scope s.heap.objs.size f cd cl
  outer:=outer
  stack:=envX qual scope s.heap.objs.size f cd cl::outer
  ex:=[]
  calm:=true
  fn:=λ _=>false
  pn:=[]
  xe:=λ e s'=>wpAny (model P w) (A.deeper (envX qual scope s.heap.objs.size f cd cl)) (leaving (envX qual scope s.heap.objs.size f cd cl) e) (λ _ s''=>CXE P w outer H s E e s'') (λ e' s''=>CXE P w outer H s E e' s'') s'
section
variable {P:Program} {w:World} {K:PySem.W.Frag} {mg:Str->Option Value} {base:Heap} {N:List Str} {qual:Str} {scope:Scope} {f:Addr} {cd:Value} {cl:List (Str × Addr)} {A:Around} {outer:List Env} {s:Shared} {H:Hp} {E:XK}
structure ClOkL (N:List Str) (scope:Scope) (cl:List (Str × Addr)) (h:Heap) (H:Hp) (vs:List V):Prop where
  len:vs.length=N.length
  inj:∀ x y c,cl.lookup x=some c->cl.lookup y=some c->x=y
  has:∀ x,(scope.names.lookup x=some .cell\/scope.names.lookup x=some .free)->∃ c,cl.lookup x=some c
  val:∀ (i:Nat) (x:Str) (v:V),N[i]?=some x->vs[i]?=some v->∃ c u,scope.names.lookup x=some .free/\cl.lookup x=some c/\RelV v u/\h.IsCell c (some u)
  cell:∀ x c,cl.lookup x=some c->(∃ v,h.IsCell c v)/\H c=none
end
theorem ClOkL.on {N:List Str} {scope:Scope} {cl:List (Str × Addr)} {h h':Heap} {H H':Hp} {vs:List V} (C:ClOkL N scope cl h H vs) (k:∀ x c o,cl.lookup x=some c->h.get? c=some o->h'.get? c=some o/\H' c=none):ClOkL N scope cl h' H' vs:=by
  refine ⟨C.len,C.inj,C.has,λ i x v h1 h2=> ?_,λ x c e=> ?_⟩
  · obtain ⟨c,u,k1,l,r,o,e,d⟩:=C.val i x v h1 h2;exact ⟨c,u,k1,l,r,o,(k x c o l e).1,d⟩
  · obtain ⟨⟨v,o,e1,d⟩,_⟩:=C.cell x c e;exact ⟨⟨v,o,(k x c o e e1).1,d⟩,(k x c o e e1).2⟩
def NB (qual:Str) (oc:Obj):Prop:=∃ vs t,oc.data= .fields vs/\vs[1]?=some (.str qual t)
theorem IE {p:Pos} {c cv:Value} {a b:Int} {t u:Tok}:∀ (l:List Value),TriplesOk l->codeAmong p (l++[.int a t, .int b u,c])=some cv->codeAmong p l=some cv\/cv=c
  | [],_,h=>by
    right;simp only [List.nil_append,codeAmong] at h;split at h
    · exact (Option.some.inj h).symm
    · cases h
  | .int x tx:: .int y ty::z::rest,ok,h=>by
    have h:codeAmong p (.int x tx:: .int y ty::z::(rest++[.int a t, .int b u,c]))=some cv:=h;simp only [codeAmong] at h ⊢;split at h
    · rename_i hc
      rw [if_pos hc];exact .inl h
    · rename_i hc
      rw [if_neg hc];exact IE rest ok h
def LamT (H:Hp) (P:Addr) (qual:Str):Prop:=∃ ps:Array Value,H P=some (.tbl ps)/\TriplesOk ps.toList/\∀ pos cv,codeAmong pos ps.toList=some cv->∃ c' oc,cv= .ref c'/\H c'=some (exO c' oc)/\NB qual oc
structure LamX (X:Cx) (c P:Addr):Prop where
  code:X.env.code= .ref c
  hd:CodeHd X.base c P
  blt:X.base.BuiltinsAt X.mg P
section
variable {X:Cx} {pins:List (Addr × Obj)} {σ:St} {H:Hp} {s:Shared}
theorem mkL {c P:Addr} {params:Arguments} {body:Expr} {scope:Scope} {pos:Pos} {Q:Value->Shared->Prop} {E:Value->Shared->Prop} (L:LamX X c P) (hfree:∀ y∈scope.names,y.2= .free->X.env.kindOf y.1=some .cell) (hdef:defaultsOf params X.env=([],[]))
    (I:Inv X pins σ H s) (hT:LamT H P (X.env.qual++"<lambda>"))
    (h:∀ f c' oc pm ctv H' s',Inv X pins σ H' s'->s'.heap.get? f=some (kla_obj "<lambda>" (X.env.qual++"<lambda>") params body scope (AG X.env.cells scope.names []) pm c' ctv)->H' f=none->s.heap.objs.size<=f->H' c'=some (exO c' oc)->NB (X.env.qual++"<lambda>") oc->
      LamT H' P (X.env.qual++"<lambda>")->(∀ b o,b≠P->H b=some o->H' b=some o)->Q (.ref f) s'):
    wpAny (model X.prog X.w) X.A (eval (.Lambda params body scope pos) X.env) Q E s:=by
  obtain ⟨ps,hP,ok,hit⟩:=hT;have hPh:s.heap.get? P=some (tabObj ps):=I.hok P _ hP;have hcl:closureFor scope X.env=pure (AG X.env.cells scope.names []):=C0 λ y hy e=>I.ok.has y.1 (.inl (hfree y hy e));have hg:s.heap.Ns mainGlobals X.mg:=I.mod.glob.keeps I.bk;have C:=L.hd.keeps I.bk;have nP:∀ b,H b=none->b≠P:=λ b n z=>by rw [z,hP] at n;cases n
  have hgP:mainGlobals≠P:=λ q=>by
    obtain ⟨o,es,ep,e,d,_⟩:=hg;rw [q,hPh] at e;cases e;cases d
  have hb:s.heap.BuiltinsAt X.mg P:=by
    obtain ⟨bm,o,a1,a2,a3,a4,a5,r⟩:=L.blt;exact ⟨bm,o,a1,a2,a3,a4,I.bk _ _ a5,r⟩
  refine kla_eval hdef ?_;cases hc:codeAmong pos ps.toList with
  | some cv=>
    obtain ⟨c',oc,rfl,hc',hoc⟩:=hit pos cv hc;refine kla_makeFunctionHit hcl I.ok.glob hg L.code C hPh ok hc hb λ ctv h' tk kp sz=> ?_;have kp2:∀ b o,s.heap.get? b=some o->(h'.push (kla_obj "<lambda>" (X.env.qual++"<lambda>") params body scope (AG X.env.cells scope.names []) ((X.mg "__name__").getD .none) c' ctv)).get? b=some o:=λ b o e=>Heap.get?_push_of_some _ (kp b o e);refine h h'.objs.size c' oc _ ctv H _ (I.un (Un.kept kp2) (I.hok.kept kp2)) (Heap.get?_push_size _ rfl) (I.hok.fresh sz) sz hc' hoc ⟨ps,hP,ok,hit⟩ λ b o _ e=>e
  | none=>
    refine kla_makeFunction hcl I.ok.glob hg L.code C hPh ok hc hgP hb λ c' ctv h' tk hx hge hlt hrec htb=> ?_;obtain ⟨c2,oc,vs,t,e2,hoc,hd,hv⟩:=hrec;cases e2;generalize hps:ps++ #[rawInt pos.line,rawInt pos.col, .ref c']=ps' at htb;have hcn:H c'=none:=I.hok.fresh hge;have ncP:c'≠P:=λ z=>by rw [z,hP] at hcn;cases hcn
    generalize hfo:kla_obj "<lambda>" (X.env.qual++"<lambda>") params body scope (AG X.env.cells scope.names []) ((X.mg "__name__").getD .none) c' ctv=fo;have kp:∀ b o,b≠P->s.heap.get? b=some o->(h'.push fo).get? b=some o:=λ b o hb e=>Heap.get?_push_of_some _ (hx b o hb e);have fz:s.heap.objs.size<=h'.objs.size:=Nat.le_of_lt (Nat.lt_of_le_of_lt hge hlt);have nc:∀ b u,H b=some u->b≠c':=λ b u q z=>by rw [z,hcn] at q;cases q
    have nT:∀ b u,H b=some u->(∀ qs,u≠ .tbl qs)->b≠P:=λ b u q n z=>by rw [z,hP] at q;cases q;exact n _ rfl
    have old:∀ b u,b≠P->H b=some u->upd (upd H c' (exO c' oc)) P (.tbl ps') b=some u:=λ b u hb q=>by rw [As hb,As (nc b u q)];exact q
    have hok':HOk X.prog X.w (upd (upd H c' (exO c' oc)) P (.tbl ps')) (h'.push fo):=λ a o e=>by
      by_cases ha:a=P
      · subst ha;rw [Ag] at e;cases e;exact Heap.get?_push_of_some _ htb
      · rw [As ha] at e;by_cases ha2:a=c'
        · subst ha2;rw [Ag] at e;cases e;exact QX (Heap.get?_push_of_some _ hoc)
        · rw [As ha2] at e;refine (I.hok a o e).stay (λ b u hb q=>kp b u ?_ q) (λ b q=>old b _ (nT b _ q λ _ z=>by cases z) q) λ b xs q=>old b _ (nT b _ q λ _ z=>by cases z) q;rcases hb with rfl | hb
          · exact ha
          · exact nT b _ hb λ _ z=>by cases z
    have I':Inv X pins σ (upd (upd H c' (exO c' oc)) P (.tbl ps')) { s with heap:=h'.push fo,toks:=tk }:=by
      refine I.step (g':=s.gens) (d':=s.drawn) (ch:=[]) (λ _ z=>nomatch z) (λ b o _ _ _ e n=>kp b o (nP b n) e) (λ b o _ _ _ e n=>⟨o.slots,kp b o (nP b n) e⟩) (λ b o _ e n=> ?_) (λ b o _ e=> ?_) (λ b xs q=>old b _ (nT b _ q λ _ z=>by cases z) q) (λ b o u q=>old b _ (nT b _ q λ _ z=>by cases z) q) (λ b qs q=> ?_) (λ m hm=> ?_) hok' I.bare
      · rw [As (nP b n),As (Nat.ne_of_lt (Nat.lt_of_lt_of_le (Heap.lt_size e) hge))];exact n
      · by_cases hb:b=P
        · subst hb;exact ⟨_,Heap.get?_push_of_some _ htb⟩
        · exact ⟨o,kp b o hb e⟩
      · by_cases hb:b=P
        · subst hb;rw [hP] at q;cases q;exact ⟨_,by rw [Ag, <-hps]⟩
        · exact ⟨#[],by rw [old b _ hb q];simp⟩
      · exact (hm.extBut hx (nP _ I.free)).push _
    subst hfo;refine h h'.objs.size c' oc _ ctv _ _ I' (Heap.get?_push_size _ rfl) ?_ fz ?_ ⟨vs,t,hd,hv⟩ ⟨ps',Ag,?_,λ p cv q=> ?_⟩ λ b o hb q=>old b o hb q
    · have hn:H h'.objs.size=none:=I.hok.fresh fz;rw [As (nP _ hn),As (Nat.ne_of_gt hlt)];exact hn
    · rw [As ncP,Ag]
    · rw [<-hps,Array.toList_append];exact TriplesOk_snoc _ _ _ _ ok
    · rw [<-hps,Array.toList_append] at q;rcases IE ps.toList ok q with z | rfl
      · obtain ⟨c1,oc1,e1,e2,e3⟩:=hit p cv z;exact ⟨c1,oc1,e1,old c1 _ (nT c1 _ e2 λ _ z=>by cases z) e2,e3⟩
      · exact ⟨c',oc,rfl,by rw [As ncP,Ag],vs,t,hd,hv⟩
end
structure LamOk (params:Arguments) (scope:Scope):Prop where
  kind:scope.kind= .function
  co:scope.isCoroutine=false
  gen:scope.isGenerator=false
  cell:∀ x∈scope.names,x.2≠ .cell
  bind:∀ (qual:Str) (body:Expr) (cl:List (Str × Addr)) (pm cdv ctv:Value),bindArgs (kla_fn "<lambda>" qual params body scope cl pm cdv ctv) ⟨[],[]⟩=pure []
theorem RJ {p:Program} {loose:List Str} {mean:ExcName->Option Value} {mg mb:Str->Option Value} {h:Heap} {T:Addr} (t:Top p loose mean mg mb h) (hT:h.get? T=some (tabObj #[])):h.BuiltinsAt mg T:=by
  obtain ⟨bm,ob,b1,b2,b3,b4,b5,b6⟩:=t.bmain;refine ⟨bm,ob,b1,b2,λ q=> ?_,λ q=> ?_,b3,b4,b5,b6⟩
  · obtain ⟨o,es,ep,e,hd,_⟩:=t.g;rw [q,e] at b3;cases b3;rw [hd] at b6;cases b6
  · rw [q,hT] at b3;cases b3;cases b4
theorem FY {H:Hp} {T:Addr} {qual:Str} (h:H T=some (.tbl #[])):LamT H T qual:=⟨#[],h,trivial,λ _ _ z=>by cases z⟩
section
variable {P:Program} {w:World} {K:PySem.W.Frag} {mg:Str->Option Value} {base:Heap}
theorem Fun.okL {x qual:Str} {st:Stmt} {f c:Addr} {fd:FuncData} {N ps:List Str} {k:Nat} {sp:Sp} (F:Fun K x qual st f fd) (hc:fd.code= .ref c) (S:FnScope N ps (Ai st)) (len:∀ vs H Q E,sp vs H Q E->vs.length=ps.length)
    (hbody:∀ (A:Around) (outer:List Env) (s:Shared) (H:Hp) (vs:List V) (Q:VK) (E:XK),Room k (A.deeper (envOfC qual (Ai st) s.heap.objs.size f (.ref c)))->sp vs H Q E->
      ∃ t,PSs (Ln CX0 P w K mg base N qual (Ai st) f (.ref c) A outer s H E).nox (CJ st) t/\t { nx:=λ _ H'=>Q .non H',rt:=Q } (start N vs) H):FnOk P w K mg base CX0 (k+1) f fd ps sp:=by
  obtain ⟨oc,od,kV,doc,pm,an,cdv,ct,osl,rfl,lk,hcd⟩:=F.ex;obtain rfl:cdv= .ref c:=hc;refine P5 lk hcd S len λ A outer s H vs Q E hr hsp=> ?_;obtain ⟨t,h,q⟩:=hbody A outer s H vs Q E hr hsp;exact ⟨t,h.nox,q⟩
structure ThAt (s:Shared) (H:Hp) (outer:List Env) (f c':Addr) (oc:Obj) (N:List Str) (qual:Str) (scope:Scope) (cl:List (Str × Addr)) (params:Arguments) (body:Expr) (pm ctv:Value) (vs:List V):Prop where
  hf:s.heap.get? f=some (kla_obj "<lambda>" qual params body scope cl pm c' ctv)
  hf0:H f=none
  nf:f∉frs outer
  hc:H c'=some (exO c' oc)
  hoc:NB qual oc
  C:ClOkL N scope cl s.heap H vs
  nc:∀ x c,cl.lookup x=some c->c∉frs outer
  lo:LamOk params scope
end
noncomputable def N4:NameKind->Bool | .free=>true | _=>false
noncomputable def Q0:NameKind->Bool | .cell=>true | _=>false
noncomputable def GR:Option NameKind->Bool | some .cell=>true | _=>false
noncomputable def JB:Option NameKind->Bool | some .free=>true | _=>false
noncomputable def BV (N:List Str) (idx:List Nat) (sc:List (Str × NameKind)) (XN:List Str) (Xsc:List (Str × NameKind)):Bool:=
  sc.all (λ y=> !(Q0 y.2)&&(!(N4 y.2)||GR (Xsc.lookup y.1)))&&(N.length == idx.length)&&(N.zip idx).all λ p=>(XN[p.2]? == some p.1)&&JB (sc.lookup p.1)&&GR (Xsc.lookup p.1)
theorem CB {α:Type} {x:Str} {v:α}:∀ {l:List (Str × α)},l.lookup x=some v->(x,v)∈l
  | (y,u)::l,h=>by
    rw [List.lookup_cons] at h;cases e:x == y with
    | true=>
      rw [e] at h;cases h;rw [eq_of_beq e];exact List.mem_cons_self
    | false=>
      rw [e] at h;exact List.mem_cons_of_mem _ (CB h)
theorem Lw {k:Option NameKind} (h:JB k=true):k=some .free:=by
  unfold JB at h;split at h
  · rfl
  · cases h
theorem Hi {k:Option NameKind} (h:GR k=true):k=some .cell:=by
  unfold GR at h;split at h
  · rfl
  · cases h
theorem Fo {N:List Str} {idx:List Nat} {sc:List (Str × NameKind)} {XN:List Str} {Xsc:List (Str × NameKind)} (h:BV N idx sc XN Xsc=true):∀ y∈sc,y.2≠ .cell:=λ y hy e=>by
  simp only [BV,Bool.and_eq_true,List.all_eq_true] at h;have:=(h.1.1 y hy).1;rw [e] at this;cases this
theorem J8 {N:List Str} {idx:List Nat} {sc:List (Str × NameKind)} {XN:List Str} {Xsc:List (Str × NameKind)} (h:BV N idx sc XN Xsc=true):∀ y∈sc,y.2= .free->Xsc.lookup y.1=some .cell:=λ y hy e=>by
  simp only [BV,Bool.and_eq_true,List.all_eq_true] at h;have:=(h.1.1 y hy).2;rw [e] at this;exact Hi (by simpa [N4] using this)
theorem JR {N:List Str} {idx:List Nat} {sc:List (Str × NameKind)} {XN:List Str} {Xsc:List (Str × NameKind)} (h:BV N idx sc XN Xsc=true):N.length=idx.length:=by
  simp only [BV,Bool.and_eq_true] at h;exact eq_of_beq h.1.2
theorem Qb {N:List Str} {idx:List Nat} {sc:List (Str × NameKind)} {XN:List Str} {Xsc:List (Str × NameKind)} (h:BV N idx sc XN Xsc=true) (i:Nat) (y:Str) (hy:N[i]?=some y):∃ j,idx[i]?=some j/\XN[j]?=some y/\sc.lookup y=some .free/\Xsc.lookup y=some .cell:=by
  have hl:=JR h;simp only [BV,Bool.and_eq_true,List.all_eq_true] at h;obtain ⟨hi,e⟩:=List.getElem?_eq_some_iff.mp hy;have hi2:i<idx.length:=by omega
  have hm:(y,idx[i])∈N.zip idx:=by
    refine List.mem_iff_getElem.mpr ⟨i,by rw [List.length_zip];omega,?_⟩;rw [List.getElem_zip,e]
  obtain ⟨⟨h1,h2⟩,h3⟩:=h.2 _ hm;exact ⟨idx[i],by simp [hi2],eq_of_beq h1,Lw h2,Hi h3⟩
theorem LamT.same {H H':Hp} {T:Addr} {q:Str} (h:LamT H T q) (s:Same H H'):LamT H' T q:=by
  obtain ⟨ps,h1,h2,h3⟩:=h;refine ⟨ps,s _ _ h1,h2,λ p cv e=> ?_⟩;obtain ⟨c',oc,e1,e2,e3⟩:=h3 p cv e;exact ⟨c',oc,e1,s _ _ e2,e3⟩
end L2
namespace L2
open PySem PySem.Spec PyProof.Rows
section
variable {X:Cx} {K:PySem.W.Frag} {e lo st:Expr} {te tl ts:TE} {pos p2:Pos}
end
section
variable {J:It} {g:TG} {σ0:St} {H:Hp} {n:Nat} {st:Nat->St} {te:TE} {Q:VK} {D:Addr}
end
end L2
namespace HT
open PySem PySem.Spec PyProof.Rows PySem.W
def Rise (xs:Array Nat):Prop:=xs.toList.Pairwise (· < ·)
theorem Rise.at {xs:Array Nat} (h:Rise xs) {i j:Nat} (hij:i<j) (hj:j<xs.size):xs.getD i 0<xs.getD j 0:=by
  have:=List.pairwise_iff_getElem.mp h i j (by simpa using Nat.lt_trans hij hj) (by simpa using hj) hij;simpa [Array.getD,hj,Nat.lt_trans hij hj] using this
structure TOk (L:Bool) (t:SetTable):Prop where
  rise:Rise t.place
  dum:t.dummies= #[]
  led:t.led=L
noncomputable def kOf (e:Int × Value):Int:=match e.2 with
  | .int k _=>k
  | _=>0
section
variable {prog:Program} {w:World} {A:Around} {E:Value->Shared->Prop} {s:Shared}
def WSet (prog:Program) (w:World) (a:Addr) (ks:List Int) (h:Heap):Prop:=∃ o es ep t,h.get? a=some o/\o.ExactSet/\o.data= .set es ep t/\ElemsOf (intKind prog w) es.toList/\(es.toList.map kOf).Perm ks/\ks.Nodup/\es.size<scanBound/\t.fits es.size=true/\TOk (!w.params.followText "set-order") t
theorem WSet.to {a:Addr} {ks:List Int} {h h':Heap} (x:WSet prog w a ks h) (k:∀ o,h.get? a=some o->h'.get? a=some o):WSet prog w a ks h':=by
  obtain ⟨o,es,ep,t,ho,r⟩:=x;exact ⟨o,es,ep,t,k _ ho,r⟩
theorem WSet.len {a:Addr} {ks:List Int} {h:Heap} (x:WSet prog w a ks h):ks.length<scanBound:=by
  obtain ⟨o,es,ep,t,_,_,_,_,p,_,b,_⟩:=x;rw [<-p.length_eq,List.length_map,Array.length_toList];exact b
structure RawS (a:Addr) (es:Array (Int × Value)) (ep:Nat) (t:SetTable) (h:Heap):Prop where
  at_:∃ o,h.get? a=some o/\o.ExactSet/\o.data= .set es ep t
  fits:t.fits es.size=true
theorem RawS.to {a:Addr} {es:Array (Int × Value)} {ep:Nat} {t:SetTable} {h h':Heap} (x:RawS a es ep t h) (k:∀ o,h.get? a=some o->h'.get? a=some o):RawS a es ep t h':=by
  obtain ⟨⟨o,ho,r⟩,f⟩:=x;exact ⟨⟨o,k _ ho,r⟩,f⟩
theorem RawS.type {a:Addr} {es:Array (Int × Value)} {ep:Nat} {t:SetTable} (x:RawS a es ep t s.heap):s.TypeIs (.ref a) "set":=by
  obtain ⟨⟨o,ho,hx,_⟩,_⟩:=x;exact ⟨_,ho,hx.1⟩
def SIt (I:Addr) (first:Value) (i:Nat) (a:Addr) (n ep:Nat) (h:Heap):Prop:=∃ o,h.get? I=some o/\o.cls= .type "set_iterator"/\o.data= .fields #[first, .int i 0, .ref a, .int n 0, .int ep 0]
theorem SIt.to {I:Addr} {first:Value} {i:Nat} {a:Addr} {n ep:Nat} {h h':Heap} (x:SIt I first i a n ep h) (k:∀ o,h.get? I=some o->h'.get? I=some o):SIt I first i a n ep h':=by
  obtain ⟨o,ho,r⟩:=x;exact ⟨o,k _ ho,r⟩
theorem SIt.type {I:Addr} {first:Value} {i:Nat} {a:Addr} {n ep:Nat} (x:SIt I first i a n ep s.heap):s.TypeIs (.ref I) "set_iterator":=by
  obtain ⟨o,ho,hc,_⟩:=x;exact ⟨_,ho,hc⟩
noncomputable abbrev bt (w:World):Bool:=w.params.followText "set-order"
end
end HT
namespace L2
open PySem PySem.Spec PyProof.Rows PySem.W
structure LamV (P:Program) (w:World) (K:PySem.W.Frag) (mg:Str->Option Value) (base:Heap) (k:Nat) (f:Addr) (sp:Sp):Prop where
  obj:FnAt f base\/keepIn K (.ref f)=true
  run:∀ (A:Around) (outer:List Env) (s:Shared) (H:Hp) (u:Value) (v:V) (Q:VK),Room k A->Env0 P w K mg base A outer s H->RelV v u->sp [v] H Q E0->codeAny (model P w) A (.call (.ref f) ⟨[u],[]⟩) (CR CX0 outer P w H s Q E0) s
def Nh (f:Addr) (sp:Sp) (to:TE) (t:TA):TE:=λ σ H Q=>to σ H λ v H1=>v= .ref f/\t σ H1 λ vs H2=>∃ x,vs=[x]/\sp [x] H2 Q E0
theorem MX {X:Cx} {k:Nat} {f:Addr} {sp:Sp} {o e:Expr} {to:TE} {t:TA} {pos:Pos} (L:LamV X.prog X.w X.K X.mg X.base k f sp) (hr:Room k X.A) (ho:PE X o to) (ha:PA X [e] t)
    (ht:eval (.Call o [e] [] pos) X.env=(do callWith pos (<-eval o X.env) [] (backTo pos (starEach [e] X.env)) (backToKw pos (keywordEach [] X.env))):=by rfl)
    (he:starEach [e] X.env=(false,eval e X.env)::starEach [] X.env:=by rfl):PE X (.Call o [e] [] pos) (Nh f sp to t):=by
  intro pins s σ H Q I h;rw [ht];refine wpAny_bind (thn (ho pins s σ H _ I h) λ u s1 ⟨x,H1,I1,rx,ex,q⟩=> ?_);subst ex;obtain rfl:u=Value.ref f:=rx;have key:∀ (R:Shared->Prop),(∀ {s':Shared} {H':Hp},Inv X pins σ H' s'->R s')->wpAny (model X.prog X.w) X.A (spliced (backTo pos (starEach [e] X.env))) (λ vs s₁=>R s₁/\wpAny (model X.prog X.w) X.A (call (.ref f) ([]++vs)) (EP X pins σ Q) X.xe s₁) X.xe s1:=by
    intro R hR;refine thn (ha pos pins s1 σ H1 _ I1 q) λ us s2 ⟨vs,H2,I2,r,x,ev,q2⟩=>⟨hR I2,?_⟩;subst ev;obtain ⟨u2,rfl,rv⟩:=EJ r;refine wpAny_call (codeAny_mono (L.run X.A X.stack s2 H2 u2 x Q hr I2.env0 rv q2) λ r s' hq=> ?_);cases r with
    | error e=>exact False.elim hq
    | ok fl=>
      cases fl with
      | ret u=>exact I2.after hq
      | next=>exact False.elim hq
      | brk=>exact False.elim hq
      | cont=>exact False.elim hq
  rcases L.obj with ho | ho
  · exact callWith_F (q:=f) (let ⟨oc,od,fd,sl,e⟩:=ho;⟨oc,od,fd,sl,I1.bk _ _ e⟩) (key (λ s'=>FnAt f s'.heap) λ I'=>let ⟨oc,od,fd,sl,e⟩:=ho;⟨oc,od,fd,sl,I'.bk _ _ e⟩) he rfl
  · exact PySem.W.callWith_K (h₀:=X.base) I.ok.mod.kin ho (key (λ s'=>X.K.In s'.heap) λ I'=>I'.kIn) he rfl
section
variable {P:Program} {w:World} {K:PySem.W.Frag} {mg:Str->Option Value} {base:Heap} {N:List Str} {qual x:Str} {scope:Scope} {f:Addr} {cd:Value} {cl:List (Str × Addr)} {A:Around} {outer:List Env} {s:Shared} {H:Hp} {E:XK}
theorem J4 {vs:List V} {h':Heap} {tk:Nat} {u:Value} {v:V} (hk:scope.kind= .function) (hloc:scope.names.lookup x=some .local) (hd:A.handled=none) (e0:Env0 P w K mg base A outer s H) (C:ClOkL N scope cl s.heap H vs) (rv:RelV v u) (hns:h'.Ns s.heap.objs.size λ y=>([(x,u)]:List (Str × Value)).reverse.lookup y) (kp:∀ b o,s.heap.get? b=some o->h'.get? b=some o):
    Inv (cxL P w K mg base (x::N) qual scope f cd cl A outer s H E) [] (some v::vs.map some) H { s with heap:=h',toks:=tk }:=by
  have noA:∀ b:Addr,b∉(cxL P w K mg base (x::N) qual scope f cd cl A outer s H E).ex:=λ b z=>absurd (show b∈([]:List Addr) from z) (by simp);have ic:∀ c v,s.heap.IsCell c v->h'.IsCell c v:=λ c v ⟨o,e,d⟩=>⟨o,kp _ _ e,d⟩;refine ⟨⟨e0.mod,hk,rfl,rfl,Nat.le_refl _,C.inj,C.has,λ y c z _=>(by cases z),λ _=>hd,Around.frames_deeper e0.frames, .inr ⟨rfl,rfl⟩,λ b z=>absurd z (noA b),e0.bs,e0.bsz,λ b _ _=>noA b,λ b z=>absurd z (noA b),e0.funs,e0.frf⟩,
    rfl,e0.bare,Un.kept kp,⟨_,hns,λ i y v' h1 h2 h3=> ?_⟩,λ y c h=> ?_,e0.hok.fresh (Nat.le_refl _),λ y c h=>(C.cell y c h).2,λ p hp=>absurd (show p∈([]:List (Addr × Obj)) from hp) (by simp),e0.hok.kept kp,by show (some v::vs.map some).length=(x::N).length;rw [List.length_cons,List.length_cons,List.length_map,C.len]⟩
  · cases i with
    | zero=>
      have e1:x=y:=by
        have h1:(x::N)[0]?=some y:=h1;simpa using h1
      have e2:v=v':=by simpa using h2
      subst e1 e2;refine ⟨u,rv, .inl ⟨hloc,?_⟩⟩;show ([(x,u)]:List (Str × Value)).reverse.lookup x=some u;simp
    | succ i=>
      have h1:N[i]?=some y:=by
        have h1:(x::N)[i+1]?=some y:=h1;simpa using h1
      have h2:(vs.map some)[i]?=some (some v'):=by simpa using h2
      have h2':vs[i]?=some v':=by
        rw [List.getElem?_map] at h2;cases e:vs[i]? with
        | none=>rw [e] at h2;cases h2
        | some a=>rw [e] at h2;cases h2;rfl
      obtain ⟨c,u,k,l,r,ce⟩:=C.val i y v' h1 h2';exact ⟨u,r, .inr ⟨.inr k,c,l,ic _ _ ce⟩⟩
  · obtain ⟨v,z⟩:=(C.cell y c h).1;exact ⟨v,ic _ _ z⟩
theorem PM {k:Nat} {params:Arguments} {body:Expr} {pm ctv:Value} {c':Addr} {vs:List V} {Q:VK} {tb:TE} {u:Value} {v:V} (ho:s.heap.get? f=some (kla_obj "<lambda>" qual params body scope cl pm c' ctv)) (hcd:s.heap.CodeRec (.ref c') qual) (hr:Room (k+1) A) (e0:Env0 P w K mg base A outer s H)
    (hk:scope.kind= .function) (hco:scope.isCoroutine=false) (hgen:scope.isGenerator=false) (hcell:∀ y∈scope.names,y.2≠ .cell) (hloc:scope.names.lookup x=some .local) (hbind:bindArgs (kla_fn "<lambda>" qual params body scope cl pm (.ref c') ctv) ⟨[u],[]⟩=pure [(x,u)]) (C:ClOkL N scope cl s.heap H vs) (rv:RelV v u)
    (hb:PE (cxL P w K mg base (x::N) qual scope f (.ref c') cl A outer s H E0) body tb) (h:tb (some v::vs.map some) H Q):codeAny (model P w) A (.call (.ref f) ⟨[u],[]⟩) (CR CX0 outer P w H s Q E0) s:=by
  have lim:s.heap.NoLimit:=e0.mod.nolimit.keeps λ b o e=>(e0.bs b o e).1;refine kla_callFunE hr.depth ho rfl hco hgen rfl hcd ?_;rw [hbind];refine wpAny_pure (wpAny_newFunctionEnv hcell (λ y hy=> ?_) (λ h₁ hns hsb=>⟨lim.fresh _ hsb,?_⟩) hk)
  · rw [List.mem_singleton.mp hy];exact hloc
  have kp:∀ b o,s.heap.get? b=some o->h₁.get? b=some o:=λ b o e=>hsb.extBut b o (Nat.ne_of_lt (Heap.lt_size e)) (Heap.get?_push_of_some _ e);show codeAny _ _ (.expr body (envX qual scope s.heap.objs.size f (.ref c') cl)) _ _;refine kla_codeExpr ?_;have I:Inv (cxL P w K mg base (x::N) qual scope f (.ref c') cl A outer s H E0) [] (some v::vs.map some) H { s with heap:=h₁,toks:=s.toks+1 }:=J4 hk hloc hr.hd e0 C rv hns kp;refine wpAny_mono (hb [] _ _ H Q I h) (λ u s' hs=> ?_) λ e s' hs=> ?_
  · obtain ⟨v,H',J,rv,q⟩:=hs;exact ⟨v,H',J.os,J.bare,J.base,J.hok,rv,q⟩
  · refine wpAny_mono hs (λ _ s2 z=> ?_) λ _ s2 z=> ?_
    · obtain ⟨a,C,t,od,H',rfl,os,bare,un,hok,b,di,q⟩:=z;exact q.elim
    · obtain ⟨a,C,t,od,H',rfl,os,bare,un,hok,b,di,q⟩:=z;exact q.elim
end
def spL (c':Addr) (oc:Obj) (tb:TE) (vs:List V):Sp:=λ us H Q _=>∃ v,us=[v]/\H c'=some (exO c' oc)/\tb (some v::vs.map some) H Q
def WF (P:Addr) (qual:Str) (idx:List Nat) (sp:Addr->Sp->Sp) (t1 t2 tb:TE):TE:=λ σ H Q=>t1 σ H λ v1 H1=>t2 σ H1 λ v2 H2=>LamT H2 P qual/\∃ vs:List V,vs.length=idx.length/\(∀ (i j:Nat),idx[i]?=some j->∃ v,vs[i]?=some v/\σ[j]?=some (some v))/\
  ∀ H' f c' oc,LamT H' P qual->(∀ b o,b≠P->H2 b=some o->H' b=some o)->H' c'=some (exO c' oc)->sp f (spL c' oc tb vs) [v1,v2, .ref f] H' Q E0
noncomputable def BU (h:Heap) (H:Hp) (fs:List Addr):Heap:=hideAll h (trk h H++fs)
theorem BR {h:Heap} {H:Hp} {fs:List Addr} {b:Addr} {o:Obj} (e:h.get? b=some o) (n:H b=none) (nf:b∉fs):(BU h H fs).get? b=some o:=
  hideAll_get _ e λ hm=>by
    rcases List.mem_append.mp hm with z | z
    · have q:(H b).isSome=true:=(List.mem_filter.mp z).2;rw [n] at q;simp at q
    · exact nf z
theorem Mh {h:Heap} {H:Hp} {fs:List Addr} {b:Addr} {o:Obj} (e:(BU h H fs).get? b=some o):h.get? b=some o/\H b=none:=by
  have e':h.get? b=some o:=of_hideAll _ e;refine ⟨e',?_⟩;cases q:H b with
  | none=>rfl
  | some x=>
    have hm:b∈trk h H:=List.mem_filter.mpr ⟨List.mem_range.mpr (Heap.lt_size e'),by simp [q]⟩;rw [show (BU h H fs).get? b=none from hideAll_none _ (List.mem_append_left _ hm)] at e;cases e
theorem Fc {h base base':Heap}:∀ {l:List Env},h.FunFrames base l->(∀ b∈frs l,base'.get? b=none)->h.FunFrames base' l
  | [],_,_=>trivial
  | env::rest,⟨k,⟨L,o,e1,e2,e3,e4⟩,r⟩,n=>by
    have hf:frs (env::rest)=L::frs rest:=Fy e1;exact ⟨k,⟨L,o,e1,n L (by rw [hf];exact List.mem_cons_self),e3,e4⟩,Fc r λ b hb=>n b (by rw [hf];exact List.mem_cons_of_mem _ hb)⟩
theorem Kk {X:Cx} {pins:List (Addr × Obj)} {σ:St} {H:Hp} {s:Shared} (I:Inv X pins σ H s):Env0 X.prog X.w X.K X.mg (BU s.heap H (frs X.stack)) X.A X.stack s H:=by
  have sub:∀ b o,X.base.get? b=some o->(BU s.heap H (frs X.stack)).get? b=some o:=λ b o e=>BR (I.bs b o e).1 (I.bs b o e).2 λ z=>by
    have:=(B2 I.stack z).1;rw [e] at this;cases this
  have nsK:∀ {b:Addr} {m:Str->Option Value},X.base.Ns b m->(BU s.heap H (frs X.stack)).Ns b m:=λ {b m} ⟨o,es,ep,e,r⟩=>⟨o,es,ep,sub _ _ e,r⟩;refine ⟨I.ok.frames,⟨I.ok.mod.kin.keeps sub,nsK I.ok.mod.glob,?_,?_⟩,λ b o e=>Mh e,Nat.le_of_eq (hideAll_size _ _),Fc I.stack λ b hb=>hideAll_none _ (List.mem_append_right _ hb),I.stkFree,I.hok,I.bare⟩
  · obtain ⟨mb,h1,h2⟩:=I.ok.mod.blt;exact ⟨mb,nsK h1,h2⟩
  · exact I.ok.mod.nolimit.keeps sub
theorem Qu {X:Cx} {x y:Str} {c P:Addr} {k kb:Nat} {ps:List Str} {sp:Addr->Sp->Sp} {params:Arguments} {body e1 e2:Expr} {scope:Scope} {p lpos pos:Pos} {t1 t2 tb:TE} {N:List Str} {idx:List Nat}
    (hm:∃ fs,X.mg x=some (.ref fs)/\keepIn X.K (.ref fs)=true)
    (hC:∀ (base':Heap) (f:Addr) (sL:Sp),LamV X.prog X.w X.K X.mg base' (kb+1) f sL->CallF X.prog X.w X.K X.mg base' x k ps (sp f sL)) (hr:Room k X.A) (L:LamX X c P) (h1:PE X e1 t1) (h2:PE X e2 t2)
    (hb:∀ (f c':Addr) (cl:List (Str × Addr)) (base':Heap) (A':Around) (outer':List Env) (s':Shared) (H':Hp) (E':XK),Room kb (A'.deeper (envX (X.env.qual++"<lambda>") scope s'.heap.objs.size f (.ref c') cl))->PE (cxL X.prog X.w X.K X.mg base' (y::N) (X.env.qual++"<lambda>") scope f (.ref c') cl A' outer' s' H' E') body tb)
    (hchk:BV N idx scope.names X.N X.env.scope.names=true) (hloc:scope.names.lookup y=some .local) (hst:X.stack=X.env::X.outer:=by rfl) (hfm:X.env.frame=some X.env.locals:=by rfl) (hfn:∀ y,X.fn y=true:=by intro _;rfl)
    (hk:scope.kind= .function:=by rfl) (hco:scope.isCoroutine=false:=by rfl) (hgen:scope.isGenerator=false:=by rfl) (hbd:∀ (u:Value) (qual:Str) (body:Expr) (cl:List (Str × Addr)) (pm cdv ctv:Value),bindArgs (kla_fn "<lambda>" qual params body scope cl pm cdv ctv) ⟨[u],[]⟩=pure [(y,u)]:=by intros;rfl)
    (hdef:defaultsOf params X.env=([],[]):=by rfl) (hg:Gl X x:=by rfl) (hdb:(x == ("__debug__":Str))=false:=by decide)
    (he:starEach [e1,e2, .Lambda params body scope lpos] X.env=[(false,eval e1 X.env),(false,eval e2 X.env),(false,eval (.Lambda params body scope lpos) X.env)]:=by rfl)
    (he1:starEach [e1,e2, .Lambda params body scope lpos] X.env=(false,eval e1 X.env)::starEach [e2, .Lambda params body scope lpos] X.env:=by rfl)
    (hpl:(backTo pos (starEach [e2, .Lambda params body scope lpos] X.env)).any (·.1)=false:=by rfl):
    PE X (.Call (.Name x p) [e1,e2, .Lambda params body scope lpos] [] pos) (WF P (X.env.qual++"<lambda>") idx sp t1 t2 tb):=by
  intro pins s σ H Q I h;obtain ⟨fs,hm,hkp⟩:=hm;have hfree:=J8 hchk;have hmem:∀ y,(scope.names.lookup y=some .cell\/scope.names.lookup y=some .free)->(y,NameKind.free)∈scope.names:=λ y hy=>by
    rcases hy with hy | hy
    · exact absurd rfl (Fo hchk _ (CB hy))
    · exact CB hy
  have hN:=Qb hchk;refine wpAny_Call_Name_kw (Fx I hg hm ?_ hdb);refine PySem.W.callWith_K (h₀:=X.base) I.ok.mod.kin hkp ?_ he1 hpl;rw [he];show wpAny _ _ (spliced ((false,eval e1 X.env)::(false,eval e2 X.env)::(false,eval (.Lambda params body scope lpos) X.env)::[])) _ _ s;refine Calls.spliced_cons (thn (h1 pins s σ H _ I h) λ u1 s1 ⟨v1,H1,I1,r1,q1⟩=> ?_);refine Calls.spliced_cons (thn (h2 pins s1 σ H1 _ I1 q1) λ u2 s2 ⟨v2,H2,I2,r2,hT,vs,lv,hv,h⟩=> ?_);refine Calls.spliced_cons (mkL L hfree hdef I2 hT λ f c' oc pm ctv H' s' I' hf hf0 fz hc' hoc hT' old=> ?_);refine Calls.spliced_nil ⟨I'.kIn,?_⟩;have sub:∀ y a,(AG X.env.cells scope.names []).lookup y=some a->X.env.cells.lookup y=some a:=Dd scope.names [] λ y a z=>by cases z
  have hfs:frs X.stack=X.env.locals::frs X.outer:=by rw [hst];exact Fy hfm
  have C:ClOkL N scope (AG X.env.cells scope.names []) s'.heap H' vs:=by
    refine ⟨by rw [lv,JR hchk],λ y z a h1 h2=>I.ok.inj y z a (sub y a h1) (sub z a h2),λ y hy=> ?_,λ i y v h1 h2=> ?_,λ y a e=>⟨I'.cell y a (sub y a e),I'.freeC y a (sub y a e)⟩⟩
    · exact BX scope.names [] y (.inl ⟨hmem y hy,I.ok.has y (.inl (hfree _ (hmem y hy) rfl))⟩)
    · obtain ⟨j,hj,hXN,hk,hcell⟩:=hN i y h1;obtain ⟨v',hv',hσ⟩:=hv i j hj;have ev:v'=v:=Option.some.inj (hv'.symm.trans h2);subst ev;obtain ⟨m,hn,hl⟩:=id I'.loc;obtain ⟨u,r,lk⟩:=hl j y v' hXN hσ (.inr (.inl hcell));obtain ⟨a,ha⟩:=BX (cells:=X.env.cells) scope.names [] y (.inl ⟨hmem y (.inr hk),I.ok.has y (.inl hcell)⟩);rcases lk with ⟨kk,_⟩ | ⟨_,a',e',ce⟩
      · have kk:X.env.scope.names.lookup y=some .local:=kk;rw [hcell] at kk;cases kk
      · have:=sub y a ha;rw [e'] at this;cases this;exact ⟨a,u,hk,ha,r,ce⟩
  have nc:∀ y a,(AG X.env.cells scope.names []).lookup y=some a->a∉frs X.stack:=λ y a e z=>by
    have e:=sub y a e;rw [hfs] at z;rcases List.mem_cons.mp z with z | z
    · exact I.cne y a e z
    · obtain ⟨_,o,ho,_⟩:=B2 I.ok.funs z;have:=I.ok.cab y a (hfn y) e;exact absurd (Nat.lt_of_lt_of_le (Heap.lt_size ho) this) (Nat.lt_irrefl _)
  have nf:f∉frs X.stack:=λ z=>by
    obtain ⟨_,o,ho,_⟩:=B2 I2.stack z;exact absurd (Nat.lt_of_lt_of_le (Heap.lt_size ho) fz) (Nat.lt_irrefl _)
  have e0:=Kk I';have bf:(BU s'.heap H' (frs X.stack)).get? f=_:=BR hf hf0 nf;have LV:LamV X.prog X.w X.K X.mg (BU s'.heap H' (frs X.stack)) (kb+1) f (spL c' oc tb vs):=by
    refine ⟨.inl ⟨_,_,_,_,bf⟩,λ A outer s3 H3 u v Q3 hr3 e3 rv ⟨v',ev,hc3,q3⟩=> ?_⟩;cases ev;obtain ⟨vs',t,d,e1⟩:=hoc;have hcd:s3.heap.CodeRec (.ref c') (X.env.qual++"<lambda>"):=⟨c',oc,vs',t,rfl,Ly (e3.hok c' _ hc3),d,e1⟩;have C3:ClOkL N scope (AG X.env.cells scope.names []) s3.heap H3 vs:=C.on λ y c o l e=>e3.bs c o (BR e (C.cell y c l).2 (nc y c l));exact PM (tb:=tb) (e3.bs _ _ bf).1 hcd hr3 e3 hk hco hgen (Fo hchk) hloc (hbd _ _ _ _ _ _ _) C3 rv (hb f c' _ _ A outer s3 H3 E0 (hr3.deeper _)) q3
  obtain ⟨f2,fd,hm2,_,F,hbi⟩:=hC _ f _ LV;rw [hm] at hm2;cases hm2;have q:=h H' f c' oc hT' old hc';have r3:Vals [v1,v2, .ref f] [u1,u2, .ref f]:= .cons r1 (.cons r2 (.cons rfl .nil));have hl:([u1,u2, .ref f]:List Value).length=ps.length:=by rw [<-r3.length];exact F.len _ _ _ _ q
  refine wpAny_call (codeAny_mono (F.run X.A X.stack s' H' ⟨[u1,u2, .ref f],[]⟩ [u1,u2, .ref f] _ Q E0 hr e0 (by have:=hbi s' [u1,u2, .ref f] I'.kIn (by simpa using hl);simpa using this) r3 q) λ r s3 hq=> ?_);cases r with
  | error e=>exact False.elim hq
  | ok fl=>
    cases fl with
    | ret u=>exact I'.after hq
    | next=>exact False.elim hq
    | brk=>exact False.elim hq
    | cont=>exact False.elim hq
theorem M6 {f:Addr} {sp:Sp} {to:TE} {t:TA} {σ:St} {H:Hp} {Q:VK} (h:to σ H λ v H1=>v= .ref f/\t σ H1 λ vs H2=>∃ x,vs=[x]/\sp [x] H2 Q E0):Nh f sp to t σ H Q:=h
theorem QM {T:Addr} {q:Str} {idx:List Nat} {sp:Addr->Sp->Sp} {t1 t2 tb:TE} {σ:St} {H:Hp} {Q:VK} (h:t1 σ H λ v1 H1=>t2 σ H1 λ v2 H2=>LamT H2 T q/\∃ vs:List V,vs.length=idx.length/\(∀ (i j:Nat),idx[i]?=some j->∃ v,vs[i]?=some v/\σ[j]?=some (some v))/\
    ∀ H' f c' oc,LamT H' T q->(∀ b o,b≠T->H2 b=some o->H' b=some o)->H' c'=some (exO c' oc)->sp f (spL c' oc tb vs) [v1,v2, .ref f] H' Q E0):WF T q idx sp t1 t2 tb σ H Q:=h
end L2
namespace HT
open PySem PySem.Spec PyProof.Rows PySem.W PySem.Calls PySem.Builtin PySem.Builtin.ObjectAttr PySem.Builtin.Getset_descriptor
section
variable {prog:Program} {w:World} {A:Around} {E:Value->Shared->Prop} {s:Shared} {K:Frag} {a C dx:Addr} {o:Obj} {f:Str} {mA:Str->Option Value} {u:Value} {vs:Array Value}
end
end HT
namespace L2
open PySem PySem.Spec PyProof.Rows PySem.W
structure XKind (K:PySem.W.Frag) (C:Addr):Prop extends HT.ExcKind K C where
  hd:(clsIn K C).any (·.hasDict)=true
end L2
namespace HT
open PySem PySem.Spec PyProof.Rows PySem.W PySem.Calls PySem.Builtin PySem.Builtin.ObjectAttr PySem.Builtin.Getset_descriptor
noncomputable def LA:List Value:=[.type "ValueError", .type "Exception", .type "BaseException", .type "object"]
noncomputable def L8:List Value->Bool
  | .ref _::r=>L8 r
  | l=>l == LA
noncomputable def exOver (K:Frag) (C:Addr):Bool:=(clsIn K C).any λ cd=>L8 cd.mro
section
variable {prog:Program} {w:World} {A:Around} {E:Value->Shared->Prop} {s:Shared} {K:Frag} {a C dx:Addr} {o:Obj} {f:Str} {mA:Str->Option Value} {v:Value} {vs:Array Value}
end
end HT
namespace L2
open PySem PySem.Spec PyProof.Rows PySem.W
structure XSet (K:PySem.W.Frag) (C:Addr):Prop where
  sa:findIn K (.ref C) "__setattr__"=some (some (.builtin "object.__setattr__"))
  ov:HT.exOver K C=true
  hd:(clsIn K C).any (·.hasDict)=true
end L2
namespace HT
open PySem PySem.Spec PyProof.Rows PySem.W PySem.Calls PySem.Builtin
noncomputable def iniIn (K:Frag) (C fi:Addr):Bool:=match K.lookup C with
  | some ⟨.type "type",_, .cls cd,sl⟩=>(match cd.mro,sl.toList with
    | .ref C'::bm,[_,_,_,_,some (.builtin n),_]=>C' == C&&n == "ValueError.__new__"&& !cd.hasDel&&tailIn K LA bm&&nsOkIn K cd.ns&&nsIn K cd.ns "__init__" == some (some (.ref fi))
    | _,_=>false)
  | _=>false
section
variable {prog:Program} {w:World} {A:Around} {E:Value->Shared->Prop} {s:Shared} {K:Frag} {a C fi t0:Addr} {od:Option Addr} {u:Value}
end
end HT
namespace L2
open PySem PySem.Spec PyProof.Rows PySem.W
structure XBase (K:PySem.W.Frag) (CL:Addr):Prop where
  sp:specialIn K (.ref CL) "__getattribute__"=some (some (.builtin "type.__getattribute__"))
  rd:readsIn K CL (.type "type")=true
  fc:findCls K (.ref CL) (.type "type") "__init__"=some (.val (.builtin "ValueError.__init__"))
section
variable {P:Program} {w:World} {K:PySem.W.Frag} {mg:Str->Option Value} {base:Heap} {N:List Str} {qual:Str} {scope:Scope} {f:Addr} {cd:Value} {A:Around} {outer:List Env} {s₀:Shared} {H₀:Hp} {E:XK}
end
end L2
namespace HT
open PySem PySem.Spec PyProof.Rows PySem.W PySem.Calls PySem.Builtin
end HT
namespace L2
open PySem PySem.Spec PyProof.Rows PySem.W
structure MkI (K:PySem.W.Frag) (C fi:Addr):Prop where
  ini:HT.iniIn K C fi=true
  fn:isFn K (.ref fi)=true
  kp:keepIn K (.ref C)=true
section
variable {K:PySem.W.Frag} {σ:St} {H:Hp} {Q:VK} {D:Ends} {f:Str} {to tv te:TE} {t:TA} {E:XK} {C:Addr} {sp:Sp} {ts:List TE} {out:Str}
end
end L2
namespace L2
open PySem PySem.Spec PyProof.Rows
section
variable {X:Cx} {elts:List Expr} {k:Nat} {tpos:Pos}
end
section
variable {K:PySem.W.Frag} {H:Hp} {i1 i2 off:Nat} {z:Str}
end
section
variable {X:Cx} {K:PySem.W.Frag}
end
section
variable {M:Model} {A:Around} {E:Value->Shared->Prop} {s:Shared} {base:Heap} {e:Addr} {cls a0:Value} {Q:Unit->Shared->Prop}
end
section
variable {X:Cx} {E:XK} {scope:Scope} {own:List Str} {fr:List (Str × Nat)}
end
section
variable {X:Cx} {E:XK}
variable {scope:Scope} {own:List Str} {fr:List (Str × Nat)}
end
end L2
namespace L2
open PySem PySem.Spec PyProof.Rows PySem.W
def Nk (H:Hp) (ts:List Addr):Prop:=∀ b,H b=none\/(∃ o xs,H b=some (.frz o (.lst xs)))\/b∈ts
theorem MI {P:Program} {w:World} {K:PySem.W.Frag} {mg mb:Str->Option Value} {CX:CXT} {k:Nat} {fa a:Addr} {ts:List Addr} {fd:FuncData} {x:Str} {sp:Sp} {s₁:Shared} {vs:List Value} {ns:List Int}
    (KX:K.In s₁.heap) (hns:s₁.heap.Ns mainGlobals mg) (hb:s₁.heap.Ns builtinsNs mb) (hbb:∀ x:Str,x≠"__name__"->mb x=bootBuiltins x) (hlim:s₁.heap.NoLimit) (hg:s₁.gens= #[])
    (ha:s₁.heap.get? a=some { cls:= .type "list",data:= .seq vs.toArray }) (hi:IntsAre vs ns) (hl:ns.length<=sizeLine) (hr:Room k callerA)
    (hT:∀ T∈ts,s₁.heap.get? T=some (tabObj #[])) (hC:∀ T∈ts,∃ c,CodeHd s₁.heap c T) (hKT:∀ T∈ts,K.lookup T=none) (hB:∀ T∈ts,s₁.heap.BuiltinsAt mg T)
    (F:∀ base:Heap,K.In base->base.Ns mainGlobals mg->(∀ T∈ts,base.BuiltinsAt mg T)->FnOk P w K mg base CX k fa fd [x] sp) (hbind:∀ (s:Shared) (u:Value),BindsTo s fd ⟨[u],[]⟩ [(x,u)])
    (hsp:∀ H:Hp,Nk H ts->(∀ T∈ts,H T=some (.tbl #[]))->SqL K H a (ns.map V.int)->sp [.ref a] H (λ v _=>v= .bl true) λ _ _ _=>False)
    (hCX:∀ H e s',CX [] H s₁ (λ _ _ _=>False) e s'->False):
    codeAny (model P w) callerA (.call (.ref fa) ⟨[.ref a],[]⟩) (λ r s'=>r= .ok (.ret (.bool true))/\OldK s₁.heap s'.heap/\s'.os=s₁.os/\AllBare s'.gens) s₁:=by
  have rv:=Iu hi;have naT:a∉ts:=λ z=>by have:=hT a z;rw [this] at ha;cases ha
  have core:∀ H:Hp,Nk H ts->(∀ T∈ts,H T=some (.tbl #[]))->SqL K H a (ns.map V.int)->HOk P w H s₁.heap->(∀ b,H b≠none->b=a\/b∈ts)->(H a≠none->K.lookup a=none)->
      codeAny (model P w) callerA (.call (.ref fa) ⟨[.ref a],[]⟩) (λ r s'=>r= .ok (.ret (.bool true))/\OldK s₁.heap s'.heap/\s'.os=s₁.os/\AllBare s'.gens) s₁:=by
    intro H hO hHT hS hok hA hK;have free:∀ {b:Addr} {o:Obj},s₁.heap.get? b=some o->(∀ ws n,o.data≠ .seq ws n)->(∀ ws,o.data≠ .fields ws\/o.cls≠ .none)->H b=none:=λ {b o} e n1 n2=>by
      cases q:H b with
      | none=>rfl
      | some u=>
        rcases hA b (by rw [q];simp) with z | z
        · rw [z,ha] at e;cases e;exact absurd rfl (n1 _ _)
        · rw [hT b z] at e;cases e;rcases n2 #[] with z | z
          · exact absurd rfl z
          · exact absurd rfl z
    have nsK:∀ {b:Addr} {m:Str->Option Value},s₁.heap.Ns b m->(JS s₁.heap H).Ns b m:=λ {b m} ⟨o,es,ep,e,d,r⟩=>⟨o,es,ep,Hb e (free e (λ ws n=>by rw [d];simp) λ ws=> .inl (by rw [d];simp)),d,r⟩;have hKb:K.In (JS s₁.heap H):=λ b o e=>Hb (KX b o e) (by
      cases q:H b with
      | none=>rfl
      | some u=>
        rcases hA b (by rw [q];simp) with z | z
        · subst z;rw [hK (by rw [q];simp)] at e;cases e
        · rw [hKT b z] at e;cases e)
    have hM:Mod K mg (JS s₁.heap H):=⟨hKb,nsK hns,⟨mb,nsK hb,hbb⟩,let ⟨mc,h1,h2⟩:=hlim;⟨mc,nsK h1,h2⟩⟩;have e0:Env0 P w K mg (JS s₁.heap H) callerA [] s₁ H:=⟨rfl,hM,λ b o e=>Pu e,Nat.le_of_eq (Mi _ _),trivial,λ b hb=>absurd (show b∈([]:List Addr) from hb) (by simp),hok, .of_eq hg⟩;have hB':∀ T∈ts,(JS s₁.heap H).BuiltinsAt mg T:=λ T z=>by
      obtain ⟨bm,o,a1,a2,a3,a4,a5,a6,a7,a8⟩:=hB T z;exact ⟨bm,o,a1,a2,a3,a4,Hb a5 (free a5 (λ ws n=>by rw [a8];simp) λ ws=> .inl (by rw [a8];simp)),a6,a7,a8⟩
    refine codeAny_mono ((F _ hKb (nsK hns) hB').run callerA [] s₁ H ⟨[.ref a],[]⟩ [.ref a] [.ref a] _ _ hr e0 (hbind s₁ (.ref a)) (.cons rfl .nil) (hsp H hO hHT hS)) λ r s' h=> ?_
    match r,h with
    | .error e,h=>exact (hCX H e s' h).elim
    | .ok .next,h=>exact False.elim h
    | .ok .brk,h=>exact False.elim h
    | .ok .cont,h=>exact False.elim h
    | .ok (.ret u),⟨v,H',os,bare,un,hok',r',q⟩=>
      have q':v= .bl true:=q;subst q';obtain rfl:u=Value.bool true:=r';have kept:∀ b o,b∉ts->s₁.heap.get? b=some o->s'.heap.get? b=some o:=λ b o hb e=>by
        cases q:H b with
        | none=>exact un.keep b o e q (by intro z;exact absurd (show b∈([]:List Addr) from z) (by simp)) (by simp)
        | some u=>
          rcases hO b with z | ⟨ob,xs,z⟩ | z
          · rw [q] at z;cases z
          · obtain ⟨e1,_⟩:=hok b _ z;obtain ⟨e2,_⟩:=hok' b _ (un.frzs b ob _ z);rw [e] at e1;cases e1;exact e2
          · exact absurd z hb
      have hT2:∀ T∈ts,∃ more,s'.heap.get? T=some (tabObj (#[]++more)):=λ T z=>by
        obtain ⟨more,hT'⟩:=un.tbls T _ (hHT T z);exact ⟨more,hok' T _ hT'⟩
      refine ⟨rfl,⟨λ b o e=> ?_,λ b o e=> ?_⟩,os,bare⟩
      · by_cases hb:b∈ts
        · have hTb:=hT b hb;rw [hTb] at e;cases e;obtain ⟨cc,hc⟩:=hC b hb;obtain ⟨more,h2⟩:=hT2 b hb;exact .inr (.inl ⟨(hc.tab hTb).isCodeTable,rfl, #[],more,rfl,h2⟩)
        · exact .inl (kept b o hb e)
      · by_cases hb:b∈ts
        · obtain ⟨more,h2⟩:=hT2 b hb;exact ⟨_,h2⟩
        · exact ⟨o,kept b o hb e⟩
  cases hk:K.lookup a with
  | some o=>
    have e:=KX a o hk;rw [ha] at e;cases e;refine core (λ b=>if b∈ts then some (.tbl #[]) else none) (λ b=> ?_) (λ T z=>if_pos z) (.inr ⟨_,vs.toArray,_,hk,rfl,rfl,rfl,by rw [List.size_toArray,hi.length];exact hl,by simpa using rv⟩) (λ b u z=> ?_) (λ b z=> ?_) λ z=>absurd (if_neg naT) z
    · by_cases hb:b∈ts
      · exact .inr (.inr hb)
      · exact .inl (if_neg hb)
    · by_cases hb:b∈ts
      · have z':=(if_pos hb).symm.trans z;cases z';exact hT b hb
      · have z':=(if_neg hb).symm.trans z;cases z'
    · by_cases hb:b∈ts
      · exact .inr hb
      · exact absurd (if_neg hb) z
  | none=>
    refine core (λ b=>if b∈ts then some (.tbl #[]) else if b=a then some (.frz { cls:= .type "list",data:= .seq vs.toArray } (.lst (ns.map V.int))) else none) (λ b=> ?_) (λ T z=>if_pos z) (.inl (.inr ⟨{ cls:= .type "list",data:= .seq vs.toArray },(if_neg naT).trans (if_pos rfl)⟩)) (λ b u z=> ?_) (λ b z=> ?_) λ _=>hk
    · by_cases hb:b∈ts
      · exact .inr (.inr hb)
      · by_cases hb2:b=a
        · exact .inr (.inl ⟨_,_,(if_neg hb).trans (if_pos hb2)⟩)
        · exact .inl ((if_neg hb).trans (if_neg hb2))
    · by_cases hb:b∈ts
      · have z':=(if_pos hb).symm.trans z;cases z';exact hT b hb
      · by_cases hb2:b=a
        · have z':=((if_neg hb).trans (if_pos hb2)).symm.trans z;cases z';subst hb2;exact ⟨ha,by rw [List.length_map];exact hl,vs,_,rv,ha⟩
        · have z':=((if_neg hb).trans (if_neg hb2)).symm.trans z;cases z'
    · by_cases hb:b∈ts
      · exact .inr hb
      · by_cases hb2:b=a
        · exact .inl hb2
        · exact absurd ((if_neg hb).trans (if_neg hb2)) z
theorem walk_ofM {l:PySem.W.OpenLaw} {n k:Nat} {q:Program} {loose:List Str} {XP:(Str->Option Value)->Heap->Prop} {YP:World->Heap->Prop} {d:DefRec} {K:Params->PySem.W.Frag} {CX:World->CXT} {sp:World->Sp} {x:Str} {ts:List Addr}
    (hn:l.most=some n) (hn2:n<=sizeLine) (hdf:d.params.defaults=[]) (hr:Room k callerA)
    (hY:∀ (w:World) (h:Heap),YP w h->(K w.params).In h) (hYt:∀ (w:World) (h:Heap),YP w h->∀ P∈ts,h.get? P=some (tabObj #[])) (hnt:∀ w:World,noTabs (K w.params)=true)
    (F:∀ (w:World) (mg:Str->Option Value) (fa:Addr) (h:Heap),(K w.params).In h->h.Ns mainGlobals mg->mg d.name=some (.ref fa)->
      ∃ fd:FuncData,(∀ (s:Shared) (u:Value),BindsTo s fd ⟨[u],[]⟩ [(x,u)])/\(∀ h':Heap,(K w.params).In h'->∀ T∈ts,∃ c,CodeHd h' c T)/\
        ∀ base:Heap,(K w.params).In base->base.Ns mainGlobals mg->(∀ T∈ts,base.BuiltinsAt mg T)->FnOk l.prog w (K w.params) mg base (CX w) k fa fd [x] (sp w))
    (hsp:∀ (w:World) (H:Hp) (a:Addr) (ns:List Int),ns.length<=n->Nk H ts->(∀ T∈ts,H T=some (.tbl #[]))->SqL (K w.params) H a (ns.map V.int)->sp w [.ref a] H (λ v _=>v= .bl true) λ _ _ _=>False)
    (hCX:∀ (w:World) (H:Hp) (s:Shared) (e:Value) (s':Shared),CX w [] H s (λ _ _ _=>False) e s'->False):
    PySem.W.WalkO q loose XP YP l.row.toRowW d [] (λ f vs=>PySem.call f vs):=by
  refine Att.attach_call hn hdf λ w s₀ s₁ mg mb fa o pm cd doc a vs ns G Y ho hd hcd hmg hobj hints hlen hg=> ?_;have KX:=hY w _ Y;obtain ⟨fd,hb,hC,hF⟩:=F w mg fa _ KX G.T.g hmg;have hT:=hYt w _ Y;have hK:∀ T∈ts,(K w.params).lookup T=none:=λ T hm=>by
    cases e:(K w.params).lookup T with
    | none=>rfl
    | some o=>
      have e2:=KX T o e;rw [hT T hm] at e2;cases e2;have h2:=List.all_eq_true.mp (hnt w) _ (mem_of_lookupK e);exact absurd (show false=true from h2) Bool.false_ne_true
  exact MI KX G.T.g G.T.b G.T.builtins G.T.nolimit hg hobj hints (Nat.le_trans hlen hn2) hr hT (hC _ KX) hK (λ T z=>RJ G.T (hT T z)) hF hb (λ H hO h1 hS=>hsp w H a ns hlen hO h1 hS) λ H e s'=>hCX w H s₁ e s'
section
variable {prog:Program} {w:World} {A:Around} {E:Value->Shared->Prop} {s:Shared}
noncomputable def Q9 (t:Addr) (b:Bool) (TI:Addr) (v:Value):Obj:={ cls:= .type "zip",data:= .fields #[rawInt t, .bool b, .bool false, .ref TI,v] }
structure ZipAg (t1 t2:Bool) (h:Heap) (z TI i1 i2 l1 l2 t:Addr) (k:Nat):Prop where
  hz:∃ b v,h.get? z=some (Q9 t b TI v)
  ht:∃ o,h.get? t=some o
  hTI:IsPair h TI (.ref i1) (.ref i2)
  h1:BE t1 h i1 l1 k
  h2:BE t2 h i2 l2 k
def Zst (t1 t2:Bool) (h:Heap) (z TI TO i1 i2 l1 l2:Addr) (k:Nat):Prop:=ZipSt t1 t2 h z TI TO i1 i2 l1 l2 k\/∃ t,ZipAg t1 t2 h z TI i1 i2 l1 l2 t k/\t≠i1/\t≠i2/\t≠z
theorem Zst.at' {t1 t2:Bool} {h h':Heap} {z TI TO i1 i2 l1 l2 D:Addr} {k:Nat} (Z:Zst t1 t2 h z TI TO i1 i2 l1 l2 k) (n:∀ c∈[z,TI,TO,i1,i2],c≠D) (kp:∀ c o,c≠D->h.get? c=some o->h'.get? c=some o) (hD:∃ o,h'.get? D=some o):Zst t1 t2 h' z TI TO i1 i2 l1 l2 k:=by
  have kz:=λ o=>kp z o (n z (by simp));have kTI:=λ o=>kp TI o (n TI (by simp));have kTO:=λ o=>kp TO o (n TO (by simp));have k1:=λ o=>kp i1 o (n i1 (by simp));have k2:=λ o=>kp i2 o (n i2 (by simp));rcases Z with ⟨hz,hTI,⟨c,d,hTO⟩,h1,h2⟩ | ⟨t,⟨⟨b,v,hz⟩,⟨o,ht⟩,hTI,h1,h2⟩,n1⟩
  · exact .inl ⟨kz _ hz,kTI _ hTI,⟨c,d,kTO _ hTO⟩,AE h1 λ o e=>k1 o e,AE h2 λ o e=>k2 o e⟩
  · refine .inr ⟨t,⟨⟨b,v,kz _ hz⟩,?_,kTI _ hTI,AE h1 λ o e=>k1 o e,AE h2 λ o e=>k2 o e⟩,n1⟩;by_cases e:t=D
    · rw [e];exact hD
    · exact ⟨o,kp t o e ht⟩
end
section
variable {X:Cx} {pins:List (Addr × Obj)} {σ:St} {H:Hp} {s:Shared} {A:Around} {E:Value->Shared->Prop}
end
section
variable {X:Cx} {K:PySem.W.Frag}
end
end L2
namespace L2
open PySem PySem.Spec PyProof.Rows
def Rc (P:Program) (w:World) (K:PySem.W.Frag) (mg:Str->Option Value) (base:Heap) (k:Nat) (f:Addr) (sp:Sp):Prop:=
  ∃ fd ps,PySem.W.keepIn K (.ref f)=true/\FnOk P w K mg base (CXE P w) k f fd ps sp/\Binds K fd ps []
theorem CallE.val {P:Program} {w:World} {K:PySem.W.Frag} {mg:Str->Option Value} {base:Heap} {x:Str} {k:Nat} {ps:List Str} {sp:Sp} (h:CallE P w K mg base x k ps sp):∃ f,mg x=some (.ref f)/\Rc P w K mg base k f sp:=
  let ⟨f,fd,hm,hk,F,hb⟩:=h;⟨f,hm,fd,ps,hk,F,hb⟩
section
variable {X:Cx} {e o:Expr} {es:List Expr} {t:TA} {to:TE} {pos:Pos} {S:Addr->Sp->Prop} {E:XK}
end
section
variable {X:Cx} {K:PySem.W.Frag} {tg l:Expr} {ta:TA} {p pos:Pos}
end
section
variable {K:PySem.W.Frag} {σ0:St} {H:Hp} {a:Addr} {xs:List V}
end
section
variable {X:Cx} {scope:Scope} {cx:Str}
end
structure FnA (K:PySem.W.Frag) (m q:Str) (st:Stmt) (ps:List Str) (f:Addr) (fd:FuncData):Prop where
  fn:Fun K m q st f fd
  bi:Binds K fd ps []
section
variable {K:PySem.W.Frag} {mg:Str->Option Value} {m q x:Str} {st:Stmt} {ps:List Str} {f:Addr} {fd:FuncData}
theorem def_mk (a:mg x=some (.ref f)) (F:Fun K x x st f fd) (b:∀ us:List Value,us.length=ps.length->bindArgs fd ⟨us,[]⟩=pure (ps.zip us)):DefAt K mg x st ps f fd:=⟨F,a, .all b⟩
theorem fnA_mk (F:Fun K m q st f fd) (b:∀ us:List Value,us.length=ps.length->bindArgs fd ⟨us,[]⟩=pure (ps.zip us)):FnA K m q st ps f fd:=⟨F, .all b⟩
theorem exc_mk {C:Addr} (a:PySem.W.isClsIn K C=true) (b:PySem.W.findIn K (.ref C) "__getattribute__"=some (some (.builtin "BaseException.__getattribute__"))) (c:PySem.W.findIn K (.ref C) "__getattr__"=some none) (d:PySem.W.mroIn K C (.type "BaseException")=some true) (e:PySem.W.findIn K (.ref C) "__class__"=some (some (.builtin "object.__class__")))
    (f:PySem.W.specialIn K (.builtin "object.__class__") "__get__"=some (some (.builtin "getset_descriptor.__get__"))) (g:PySem.W.takesIn K (.builtin "object.__class__")=some true) (h:PySem.W.mroIn K C (.type "object")=some true):HT.ExcKind K C:=⟨a,b,c,d,e,f,g,h⟩
theorem ci_mk {n:Int} {t:Tok} (h:mg x=some (.int n t)):∃ t,mg x=some (.int n t):=⟨t,h⟩
theorem cs_mk {z:Str} {t:Tok} (h:mg x=some (.str z t)):∃ t,mg x=some (.str z t):=⟨t,h⟩
theorem own_nil:Own mg []:=λ _ h=>by cases h
theorem own_cons {xs:List Str} (a:mg x=none) (h:Own mg xs):Own mg (x::xs):=λ y hy=>by
  rcases List.mem_cons.mp hy with rfl | hy
  · exact a
  · exact h y hy
end
section
variable {prog:Program} {w:World} {κ:Type} [DecidableEq κ] (kd:KeyKind prog w κ)
inductive Rows2 (h:Heap):List (List κ)->List Value->Prop
  | nil:Rows2 h [] []
  | cons {k:List κ} {b:Addr} {r:List (List κ)} {us:List Value} (e:IsTupleKey kd h k b) (m:Rows2 h r us):Rows2 h (k::r) (.ref b::us)
variable {kd}
theorem Rows2.len {h:Heap} {r:List (List κ)} {us:List Value} (p:Rows2 kd h r us):r.length=us.length:=by
  induction p with
  | nil=>rfl
  | cons _ _ ih=>rw [List.length_cons,List.length_cons,ih]
variable {A:Around} {E:Value->Shared->Prop} {s:Shared}
end
section
variable {prog:Program} {w:World} {κ:Type} [DecidableEq κ] {kd:HeapKind prog w κ} {A:Around} {E:Value->Shared->Prop} {s:Shared}
end
section
variable {P:Program} {w:World} {H:Hp} {h:Heap}
end
end L2
namespace HT
open PySem PySem.Spec PyProof.Rows PySem.W
variable {prog:Program} {w:World} {A:Around} {E:Value->Shared->Prop} {s:Shared}
def rawIt (it d:Addr) (i n ep:Nat) (p q x y:Value) (h:Heap):Prop:=
  h.get? it=some ⟨.type "dict_itemiterator",none, .fields #[p,q, .ref d, .int i 0, .int n 0, .int ep 0,x,y], #[]⟩
theorem rawIt.type {it d:Addr} {i n ep:Nat} {p q x y:Value} (z:rawIt it d i n ep p q x y s.heap):s.TypeIs (.ref it) "dict_itemiterator":=⟨_,z,rfl⟩
noncomputable def Ti (k v:Value):Obj:=⟨.type "tuple",none, .seq #[k,v], #[]⟩
def rawOwn (it S:Addr) (p q:Value) (h:Heap):Prop:=(p= .none/\q= .bool false)\/∃ a f oa,p=rawInt ((a:Nat):Int)/\q= .bool f/\h.get? a=some oa/\a≠it/\a≠S
theorem rawOwn.to {it S:Addr} {p q:Value} {h h':Heap} (z:rawOwn it S p q h) (k:∀ b o,b≠it->b≠S->h.get? b=some o->h'.get? b=some o):rawOwn it S p q h':=
  z.imp id λ ⟨a,f,oa,h1,h2,h3,h4,h5⟩=>⟨a,f,oa,h1,h2,k a oa h4 h5 h3,h4,h5⟩
def RSt (it d S:Addr) (i n ep:Nat) (h:Heap):Prop:=∃ p q x y,rawIt it d i n ep p q x y h/\rawOwn it S p q h
theorem RSt.to {it d S:Addr} {i n ep:Nat} {h h':Heap} (z:RSt it d S i n ep h) (ne:it≠S) (k:∀ b o,b≠S->h.get? b=some o->h'.get? b=some o):RSt it d S i n ep h':=
  let ⟨p,q,x,y,h1,h2⟩:=z;⟨p,q,x,y,k _ _ ne h1,h2.to λ b o _ hs=>k b o hs⟩
structure PairsAt (es:Array DictEntry) (lo:Addr) (h:Heap) (as:List Addr):Prop where
  up:as.Pairwise (· < ·)
  lo:∀ a∈as,lo<a
  at':∀ (j:Nat) (a:Addr),as[j]?=some a->∃ e,es[j]?=some e/\h.get? a=some (Ti e.key e.val)
theorem PairsAt.to {es:Array DictEntry} {lo:Addr} {h h':Heap} {as:List Addr} (g:PairsAt es lo h as) (k:∀ b o,lo<b->h.get? b=some o->h'.get? b=some o):PairsAt es lo h' as:=
  ⟨g.up,g.lo,λ j a hj=>let ⟨e,h1,h2⟩:=g.at' j a hj;⟨e,h1,k a _ (g.lo a (List.mem_of_getElem? hj)) h2⟩⟩
end HT
namespace L2
open PySem PySem.Spec PyProof.Rows
section
variable {X:Cx} {pins:List (Addr × Obj)} {σ:St} {H H':Hp} {s:Shared} {h':Heap}
end
section
variable {P:Program} {w:World} {H:Hp} {Q:VK} {σ:St} {to:TE} {t:TA} {r:V->List V->Hp->VK->Prop}
end
variable {X:Cx} {o e:Expr} {es:List Expr} {to:TE} {t:TA} {name:Str} {apos cpos:Pos} {id:String} {r:V->List V->Hp->VK->Prop}
end L2
namespace L2
open PySem PySem.Spec PyProof.Rows PySem.W
section
variable {K:PySem.W.Frag} {a b:Addr} {xs zs:List V} {H:Hp} {σ0:St}
end
end L2
namespace L2
open PySem PySem.Spec PyProof.Rows
section
variable {X:Cx} {x m:Str} {C:Addr} {k:Nat} {ps:List Str} {sp:Sp} {E:XK} {o e:Expr} {es:List Expr} {t:TA} {ta:TE} {p pos apos:Pos}
end
structure FunD (K:PySem.W.Frag) (x qual:Str) (st:Stmt) (f:Addr) (fd:FuncData):Prop where
  ex:∃ (oc:Value) (od:Option Addr) (dV kV doc pm:Value) (an:Option Addr) (cdv ct:Value) (osl:Array (Option Value)),
    fd=PySem.W.fnOf x qual (Et st) (CJ st) (Ai st) dV kV doc pm an cdv ct/\K.lookup f=some ⟨oc,od, .func fd,osl⟩/\PySem.W.codeIn K cdv qual=true
structure FnAD (K:PySem.W.Frag) (m q:Str) (st:Stmt) (ps:List Str) (f:Addr) (fd:FuncData):Prop where
  fn:FunD K m q st f fd
  bi:Binds K fd ps []
  bn:Binds K fd ps [.none]
end L2
namespace L2
open PySem PySem.Spec PyProof.Rows PySem.W
end L2
namespace HT
open PySem PySem.Spec PyProof.Rows PySem.SeqAt
open PySem.AutoSeq1 (wpAny_loadPart')
open PySem.MeetsSeq PySem.MeetsSeq2 PySem.MeetsSeq3
section
variable {A:Around} {s:Shared}
end
end HT
namespace L2
open PySem PySem.Spec PyProof.Rows
inductive Ov (H:Hp):V->Prop
  | d {v:V} {d:Dt} (r:Rp H FT 1 v d):Ov H v
  | dic {a:Addr} (h:H a=some (.dK [])):Ov H (.ref a)
end L2
namespace L2
open PySem PySem.Spec PyProof.Rows PySem.W
section
variable {X:Cx} {pins:List (Addr × Obj)} {σ:St} {H:Hp} {s:Shared}
end
section
variable {P:Program} {w:World} {K:PySem.W.Frag} {mg:Str->Option Value} {base:Heap} {N:List Str} {qual x:Str} {scope:Scope} {f:Addr} {cd:Value} {cl:List (Str × Addr)} {A:Around} {outer:List Env} {s:Shared} {H:Hp} {E:XK}
end
theorem Pr {X:Cx} {body:List Stmt} {h₀:ExceptHandler} {hs:List ExceptHandler} {tb:TS} {pos:Pos} (hb:∀ (pn:List (Addr × Obj)) (xe:Value->Shared->Prop),PSs (X.tryC pn xe) body tb):PS X (.Try body (h₀::hs) [] [] pos) tb:=by
  intro pins s σ H D I h;refine wpAny_Try_except ?_;refine wpAny_mono (hb (X.pn++pins) (λ e s₁=>wpAny (model X.prog X.w) X.A (noteFrame e X.env) (λ _ s₂=>wpAny (model X.prog X.w) X.A (setFlight e none) (λ _ s₃=>wpAny (model X.prog X.w) X.A (handleBy e X.env (h₀::hs)) (SP X pins D) X.xe s₃) X.xe s₂) X.xe s₁) [] s σ H D I.tryC h) (λ f s₁ hq=> ?_) λ _ _ y=>y;cases f with
  | next=>
    obtain ⟨σ',H',I',q'⟩:=hq;exact wpAny_execs_nil ⟨σ',H',I'.untry I.ok,q'⟩
  | brk=>
    obtain ⟨σ',H',I',q'⟩:=hq;exact ⟨σ',H',I'.untry I.ok,q'⟩
  | cont=>
    obtain ⟨σ',H',I',q'⟩:=hq;exact ⟨σ',H',I'.untry I.ok,q'⟩
  | ret u=>
    obtain ⟨v',σ',H',I',r',q'⟩:=hq;exact ⟨v',σ',H',I'.untry I.ok,r',q'⟩
theorem M0 {P:Program} {w:World} {K:PySem.W.Frag} {mg:Str->Option Value} {base base':Heap} {A:Around} {outer:List Env} {s:Shared} {H:Hp} (e:Env0 P w K mg base' A outer s H) (m:Mod K mg base) (sub:∀ b o,base.get? b=some o->base'.get? b=some o) (sz:base.objs.size<=base'.objs.size):Env0 P w K mg base A outer s H:=
  have fr:∀ b∈frs outer,base.get? b=none:=λ b hb=>by
    cases q:base.get? b with
    | none=>rfl
    | some o=>
      have:=(B2 e.funs hb).1;rw [sub b o q] at this;cases this
  ⟨e.frames,m,λ b o h=>e.bs b o (sub b o h),Nat.le_trans sz e.bsz,Fc e.funs fr,e.frf,e.hok,e.bare⟩
def PP (P:Addr) (qual:Str) (idx:List Nat) (sp:Addr->Sp->Sp) (t1 t2 t3 tb:TE):TE:=λ σ H Q=>t1 σ H λ v1 H1=>t2 σ H1 λ v2 H2=>t3 σ H2 λ v3 H3=>LamT H3 P qual/\∃ vs:List V,vs.length=idx.length/\(∀ (i j:Nat),idx[i]?=some j->∃ v,vs[i]?=some v/\σ[j]?=some (some v))/\
  ∀ H' f c' oc,LamT H' P qual->(∀ b o,b≠P->H3 b=some o->H' b=some o)->H' c'=some (exO c' oc)->sp f (spL c' oc tb vs) [v1,v2,v3, .ref f] H' Q E0
theorem LK {X:Cx} {x y:Str} {c P:Addr} {k kb:Nat} {ps:List Str} {sp:Addr->Sp->Sp} {params:Arguments} {body e1 e2 e3:Expr} {scope:Scope} {p lpos pos:Pos} {t1 t2 t3 tb:TE} {N:List Str} {idx:List Nat}
    (hm:∃ fs,X.mg x=some (.ref fs)/\keepIn X.K (.ref fs)=true)
    (hC:∀ (base':Heap) (f:Addr) (sL:Sp),LamV X.prog X.w X.K X.mg base' (kb+1) f sL->CallF X.prog X.w X.K X.mg base' x k ps (sp f sL)) (hr:Room k X.A) (L:LamX X c P) (h1:PE X e1 t1) (h2:PE X e2 t2) (h3:PE X e3 t3)
    (hb:∀ (f c':Addr) (cl:List (Str × Addr)) (A':Around) (outer':List Env) (s':Shared) (H':Hp) (E':XK),Room kb (A'.deeper (envX (X.env.qual++"<lambda>") scope s'.heap.objs.size f (.ref c') cl))->PE (cxL X.prog X.w X.K X.mg X.base (y::N) (X.env.qual++"<lambda>") scope f (.ref c') cl A' outer' s' H' E') body tb)
    (hchk:BV N idx scope.names X.N X.env.scope.names=true) (hloc:scope.names.lookup y=some .local) (hst:X.stack=X.env::X.outer:=by rfl) (hfm:X.env.frame=some X.env.locals:=by rfl) (hfn:∀ y,X.fn y=true:=by intro _;rfl)
    (hk:scope.kind= .function:=by rfl) (hco:scope.isCoroutine=false:=by rfl) (hgen:scope.isGenerator=false:=by rfl) (hbd:∀ (u:Value) (qual:Str) (body:Expr) (cl:List (Str × Addr)) (pm cdv ctv:Value),bindArgs (kla_fn "<lambda>" qual params body scope cl pm cdv ctv) ⟨[u],[]⟩=pure [(y,u)]:=by intros;rfl)
    (hdef:defaultsOf params X.env=([],[]):=by rfl) (hg:Gl X x:=by rfl) (hdb:(x == ("__debug__":Str))=false:=by decide)
    (he:starEach [e1,e2,e3, .Lambda params body scope lpos] X.env=[(false,eval e1 X.env),(false,eval e2 X.env),(false,eval e3 X.env),(false,eval (.Lambda params body scope lpos) X.env)]:=by rfl)
    (he1:starEach [e1,e2,e3, .Lambda params body scope lpos] X.env=(false,eval e1 X.env)::starEach [e2,e3, .Lambda params body scope lpos] X.env:=by rfl)
    (hpl:(backTo pos (starEach [e2,e3, .Lambda params body scope lpos] X.env)).any (·.1)=false:=by rfl):
    PE X (.Call (.Name x p) [e1,e2,e3, .Lambda params body scope lpos] [] pos) (PP P (X.env.qual++"<lambda>") idx sp t1 t2 t3 tb):=by
  intro pins s σ H Q I h;obtain ⟨fs,hm,hkp⟩:=hm;have hfree:=J8 hchk;have hmem:∀ y,(scope.names.lookup y=some .cell\/scope.names.lookup y=some .free)->(y,NameKind.free)∈scope.names:=λ y hy=>by
    rcases hy with hy | hy
    · exact absurd rfl (Fo hchk _ (CB hy))
    · exact CB hy
  have hN:=Qb hchk;refine wpAny_Call_Name_kw (Fx I hg hm ?_ hdb);refine PySem.W.callWith_K (h₀:=X.base) I.ok.mod.kin hkp ?_ he1 hpl;rw [he];show wpAny _ _ (spliced ((false,eval e1 X.env)::(false,eval e2 X.env)::(false,eval e3 X.env)::(false,eval (.Lambda params body scope lpos) X.env)::[])) _ _ s;refine Calls.spliced_cons (thn (h1 pins s σ H _ I h) λ u1 s1 ⟨v1,H1,I1,r1,q1⟩=> ?_);refine Calls.spliced_cons (thn (h2 pins s1 σ H1 _ I1 q1) λ u2 s2 ⟨v2,H2,I2,r2,q2⟩=> ?_);refine Calls.spliced_cons (thn (h3 pins s2 σ H2 _ I2 q2) λ u3 s3 ⟨v3,H3,I3,r3,hT,vs,lv,hv,h⟩=> ?_);refine Calls.spliced_cons (mkL L hfree hdef I3 hT λ f c' oc pm ctv H' s' I' hf hf0 fz hc' hoc hT' old=> ?_);refine Calls.spliced_nil ⟨I'.kIn,?_⟩;have sub:∀ y a,(AG X.env.cells scope.names []).lookup y=some a->X.env.cells.lookup y=some a:=Dd scope.names [] λ y a z=>by cases z
  have hfs:frs X.stack=X.env.locals::frs X.outer:=by rw [hst];exact Fy hfm
  have C:ClOkL N scope (AG X.env.cells scope.names []) s'.heap H' vs:=by
    refine ⟨by rw [lv,JR hchk],λ y z a h1 h2=>I.ok.inj y z a (sub y a h1) (sub z a h2),λ y hy=> ?_,λ i y v h1 h2=> ?_,λ y a e=>⟨I'.cell y a (sub y a e),I'.freeC y a (sub y a e)⟩⟩
    · exact BX scope.names [] y (.inl ⟨hmem y hy,I.ok.has y (.inl (hfree _ (hmem y hy) rfl))⟩)
    · obtain ⟨j,hj,hXN,hk,hcell⟩:=hN i y h1;obtain ⟨v',hv',hσ⟩:=hv i j hj;have ev:v'=v:=Option.some.inj (hv'.symm.trans h2);subst ev;obtain ⟨m,hn,hl⟩:=id I'.loc;obtain ⟨u,r,lk⟩:=hl j y v' hXN hσ (.inr (.inl hcell));obtain ⟨a,ha⟩:=BX (cells:=X.env.cells) scope.names [] y (.inl ⟨hmem y (.inr hk),I.ok.has y (.inl hcell)⟩);rcases lk with ⟨kk,_⟩ | ⟨_,a',e',ce⟩
      · have kk:X.env.scope.names.lookup y=some .local:=kk;rw [hcell] at kk;cases kk
      · have:=sub y a ha;rw [e'] at this;cases this;exact ⟨a,u,hk,ha,r,ce⟩
  have nc:∀ y a,(AG X.env.cells scope.names []).lookup y=some a->a∉frs X.stack:=λ y a e z=>by
    have e:=sub y a e;rw [hfs] at z;rcases List.mem_cons.mp z with z | z
    · exact I.cne y a e z
    · obtain ⟨_,o,ho,_⟩:=B2 I.ok.funs z;have:=I.ok.cab y a (hfn y) e;exact absurd (Nat.lt_of_lt_of_le (Heap.lt_size ho) this) (Nat.lt_irrefl _)
  have nf:f∉frs X.stack:=λ z=>by
    obtain ⟨_,o,ho,_⟩:=B2 I3.stack z;exact absurd (Nat.lt_of_lt_of_le (Heap.lt_size ho) fz) (Nat.lt_irrefl _)
  have e0:=Kk I';have bf:(BU s'.heap H' (frs X.stack)).get? f=_:=BR hf hf0 nf;have subB:∀ b o,X.base.get? b=some o->(BU s'.heap H' (frs X.stack)).get? b=some o:=λ b o e=>BR (I'.bs b o e).1 (I'.bs b o e).2 λ z=>by
    have:=(B2 I'.stack z).1;rw [e] at this;cases this
  have szB:X.base.objs.size<=(BU s'.heap H' (frs X.stack)).objs.size:=by
    rw [show (BU s'.heap H' (frs X.stack)).objs.size=s'.heap.objs.size from hideAll_size _ _];exact I'.env0.bsz
  have LV:LamV X.prog X.w X.K X.mg (BU s'.heap H' (frs X.stack)) (kb+1) f (spL c' oc tb vs):=by
    refine ⟨.inl ⟨_,_,_,_,bf⟩,λ A outer s3 H3 u v Q3 hr3 e3 rv ⟨v',ev,hc3,q3⟩=> ?_⟩;cases ev;obtain ⟨vs',t,d,e1⟩:=hoc;have hcd:s3.heap.CodeRec (.ref c') (X.env.qual++"<lambda>"):=⟨c',oc,vs',t,rfl,Ly (e3.hok c' _ hc3),d,e1⟩;have C3:ClOkL N scope (AG X.env.cells scope.names []) s3.heap H3 vs:=C.on λ y c o l e=>e3.bs c o (BR e (C.cell y c l).2 (nc y c l));exact PM (tb:=tb) (e3.bs _ _ bf).1 hcd hr3 (M0 e3 I.ok.mod subB szB) hk hco hgen (Fo hchk) hloc (hbd _ _ _ _ _ _ _) C3 rv (hb f c' _ A outer s3 H3 E0 (hr3.deeper _)) q3
  obtain ⟨f2,fd,hm2,_,F,hbi⟩:=hC _ f _ LV;rw [hm] at hm2;cases hm2;have q:=h H' f c' oc hT' old hc';have r4:Vals [v1,v2,v3, .ref f] [u1,u2,u3, .ref f]:= .cons r1 (.cons r2 (.cons r3 (.cons rfl .nil)));have hl:([u1,u2,u3, .ref f]:List Value).length=ps.length:=by rw [<-r4.length];exact F.len _ _ _ _ q
  refine wpAny_call (codeAny_mono (F.run X.A X.stack s' H' ⟨[u1,u2,u3, .ref f],[]⟩ [u1,u2,u3, .ref f] _ Q E0 hr e0 (by have:=hbi s' [u1,u2,u3, .ref f] I'.kIn (by simpa using hl);simpa using this) r4 q) λ r s3 hq=> ?_);cases r with
  | error e=>exact False.elim hq
  | ok fl=>
    cases fl with
    | ret u=>exact I'.after hq
    | next=>exact False.elim hq
    | brk=>exact False.elim hq
    | cont=>exact False.elim hq
theorem Mb {T:Addr} {q:Str} {idx:List Nat} {sp:Addr->Sp->Sp} {t1 t2 t3 tb:TE} {σ:St} {H:Hp} {Q:VK} (h:t1 σ H λ v1 H1=>t2 σ H1 λ v2 H2=>t3 σ H2 λ v3 H3=>LamT H3 T q/\∃ vs:List V,vs.length=idx.length/\(∀ (i j:Nat),idx[i]?=some j->∃ v,vs[i]?=some v/\σ[j]?=some (some v))/\
    ∀ H' f c' oc,LamT H' T q->(∀ b o,b≠T->H3 b=some o->H' b=some o)->H' c'=some (exO c' oc)->sp f (spL c' oc tb vs) [v1,v2,v3, .ref f] H' Q E0):PP T q idx sp t1 t2 t3 tb σ H Q:=h
theorem CallF.lam {P:Program} {w:World} {K:PySem.W.Frag} {mg:Str->Option Value} {base:Heap} {x:Str} {k k':Nat} {y:Str} {sp:Sp} (h:CallF P w K mg base x k [y] sp) (hk':k<=k'):∃ f,mg x=some (.ref f)/\LamV P w K mg base k' f sp:=by
  obtain ⟨f,fd,hm,hk,F,hb⟩:=h;refine ⟨f,hm, .inr hk,λ A outer s H u v Q hr e0 rv q=> ?_⟩;have kin:K.In s.heap:=e0.mod.kin.keeps λ b o e=>(e0.bs b o e).1;exact F.run A outer s H ⟨[u],[]⟩ [u] _ Q E0 (hr.mono hk') e0 (hb s [u] kin rfl) (.cons rv .nil) q
end L2
namespace MFew
def rep {α:Type} (u:List α):Nat->List α
  | 0=>[]
  | t+1=>u++rep u t
section
variable {α:Type}
theorem rep_len (u:List α):∀ t,(rep u t).length=u.length*t
  | 0=>rfl
  | t+1=>by rw [rep,List.length_append,rep_len u t,Nat.mul_succ,Nat.add_comm]
theorem Jp (u:List α) (s:Nat):∀ t,rep u (t+s)=rep u t++rep u s
  | 0=>by rw [Nat.zero_add];rfl
  | t+1=>by rw [Nat.succ_add,rep,rep,Jp u s t,List.append_assoc]
theorem rep_flat (u:List α):∀ t,(List.replicate t u).flatten=rep u t
  | 0=>rfl
  | t+1=>by rw [List.replicate_succ,List.flatten_cons,rep_flat u t,rep]
inductive Cost:List α->Nat->Prop
  | nil:Cost [] 0
  | one (x:α) {l:List α} {m:Nat}:Cost l m->Cost (x::l) (m+1)
  | grp {u l:List α} {m k:Nat} (t:Nat):2<=t->u≠[]->Cost u m->Cost l k->Cost (rep u t++l) (m+k+2)
theorem cost_len:∀ l:List α,Cost l l.length
  | []=> .nil
  | x::l=> .one x (cost_len l)
def M3 (l:List α) (m:Nat):Prop:=Cost l m/\∀ k,Cost l k->m<=k
theorem KH (l:List α):∃ m,M3 l m:=by
  have:∀ n,(∃ m,M3 l m)\/∀ k,k<n->¬ Cost l k:=by
    intro n
    induction n with
    | zero=>exact .inr λ k hk=>absurd hk (Nat.not_lt_zero _)
    | succ n ih=>
      rcases ih with h | h
      · exact .inl h
      · by_cases c:Cost l n
        · exact .inl ⟨n,c,λ k hk=>by
            rcases Nat.lt_or_ge k n with z | z
            · exact absurd hk (h k z)
            · exact z⟩
        · refine .inr λ k hk=> ?_;rcases Nat.lt_or_ge k n with z | z
          · exact h k z
          · rw [show k=n by omega];exact c
  rcases this (l.length+1) with h | h
  · exact h
  · exact absurd (cost_len l) (h _ (Nat.lt_succ_self _))
def M (l:List α):Nat:=Classical.choose (KH l)
theorem LM (l:List α):M3 l (M l):=Classical.choose_spec (KH l)
theorem M_le {l:List α} {m:Nat} (h:Cost l m):M l<=m:=(LM l).2 m h
def sl (xs:List α) (i j:Nat):List α:=(xs.drop i).take (j - i)
theorem sl_len {xs:List α} {i j:Nat} (h:j<=xs.length):(sl xs i j).length=j - i:=by
  unfold sl;rw [List.length_take,List.length_drop];omega
theorem GW {xs:List α} {i j d:Nat}:(sl xs i j).drop d=sl xs (i+d) j:=by
  unfold sl;rw [List.drop_take,List.drop_drop];congr 1;omega
theorem ED {xs:List α} {i j d:Nat} (h:i+d<=j):(sl xs i j).take d=sl xs i (i+d):=by
  unfold sl;rw [List.take_take];congr 1;omega
theorem sl_all (xs:List α):sl xs 0 xs.length=xs:=by unfold sl;simp
theorem sl_nil (xs:List α) (i:Nat):sl xs i i=[]:=by unfold sl;simp
theorem sl_app {xs:List α} {i m j:Nat} (h1:i<=m) (h2:m<=j):sl xs i m++sl xs m j=sl xs i j:=by
  have e1:=ED (xs:=xs) (i:=i) (j:=j) (d:=m - i) (by omega);have e2:=GW (xs:=xs) (i:=i) (j:=j) (d:=m - i);rw [show i+(m - i)=m by omega] at e1 e2;rw [<-e1, <-e2,List.take_append_drop]
theorem sl_cons {xs:List α} {i j:Nat} (h:i<j) (hj:j<=xs.length):sl xs i j=xs[i]'(by omega)::sl xs (i+1) j:=by
  unfold sl;rw [List.drop_eq_getElem_cons (by omega),show j - i=(j - (i+1))+1 by omega,List.take_succ_cons]
theorem MW (u l:List α) (t:Nat) (ht:1<=t):(rep u t++l).take u.length=u:=by
  obtain ⟨s,rfl⟩:∃ s,t=s+1:=⟨t - 1,by omega⟩;rw [rep,List.append_assoc,List.take_left'];rfl
theorem Od (u l:List α) (t:Nat):(rep u t++l).drop (u.length*t)=l:=by
  rw [<-rep_len,List.drop_left]
theorem Qh {l:List α} {p:Nat}:∀ {t:Nat},l.length=p*t->l.take (l.length - p)=l.drop p->l=rep (l.take p) t:=by
  intro t
  induction t generalizing l with
  | zero=>intro h _;rw [Nat.mul_zero] at h;rw [List.length_eq_zero_iff.mp h];rfl
  | succ t ih=>
    intro h e;have hm:p*(t+1)=p*t+p:=Nat.mul_succ p t;cases t with
    | zero=>
      show l=l.take p++[];rw [List.append_nil,List.take_of_length_le (by omega)]
    | succ s=>
      have hs:p*(s+1)=p*s+p:=Nat.mul_succ p s;have hl:(l.drop p).length=p*(s+1):=by rw [List.length_drop];omega
      have q:(l.drop p).take ((l.drop p).length - p)=(l.drop p).drop p:=by
        conv=>rhs;rw [<-e]
        rw [List.drop_take,hl,show l.length - p - p=p*(s+1) - p by omega]
      have r:=ih hl q;have ht:(l.drop p).take p=l.take p:=by
        rw [<-e,List.take_take];congr 1;omega
      rw [ht] at r;rw [rep, <-r,List.take_append_drop]
theorem Ml {u:List α} {t:Nat} (ht:1<=t):(rep u t).take ((rep u t).length - u.length)=(rep u t).drop u.length:=by
  obtain ⟨s,rfl⟩:∃ s,t=s+1:=⟨t - 1,by omega⟩;have e1:rep u (s+1)=rep u s++u:=by rw [Jp];simp [rep]
  have e2:(rep u (s+1)).drop u.length=rep u s:=by rw [rep,List.drop_left]
  rw [e2]
  conv=>lhs;rw [e1]
  rw [List.length_append,Nat.add_sub_cancel,List.take_left]
variable (opn:Nat->α) (cls:α) (plain:α->Prop)
inductive Spr:List α->List α->Prop
  | nil:Spr [] []
  | one (x:α) {ws l:List α}:plain x->Spr ws l->Spr (x::ws) (x::l)
  | grp (t:Nat) {us u ws l:List α}:2<=t->t<=60->u≠[]->Spr us u->Spr ws l->Spr (opn t::(us++cls::ws)) (rep u t++l)
variable {opn cls plain}
theorem Spr.app {ws l ws' l':List α} (h:Spr opn cls plain ws l) (h':Spr opn cls plain ws' l'):Spr opn cls plain (ws++ws') (l++l'):=by
  induction h with
  | nil=>exact h'
  | one x p _ ih=>exact .one x p ih
  | grp t h1 h2 hu a _ _ ih=>
    rw [List.append_assoc,List.cons_append,List.append_assoc,List.cons_append];exact .grp t h1 h2 hu a ih
theorem Spr.cost {ws l:List α} (h:Spr opn cls plain ws l):Cost l ws.length:=by
  induction h with
  | nil=>exact .nil
  | one x _ _ ih=>exact .one x ih
  | grp t h1 _ hu _ _ ih1 ih2=>
    have:=Cost.grp t h1 hu ih1 ih2;simp only [List.length_cons,List.length_append];rw [show ∀ a b:Nat,a+(b+1)+1=a+b+2 by omega];exact this
theorem Spr.ne {ws l:List α} (h:Spr opn cls plain ws l) (hl:l≠[]):ws≠[]:=by
  cases h with
  | nil=>exact absurd rfl hl
  | one x _ _=>simp
  | grp t _ _ _ _ _=>simp
def better (b:Option (List α)) (c:List α):Option (List α):=
  match b with
  | none=>some c
  | some b=>if c.length<b.length then some c else some b
theorem CO:∀ (cs:List (List α)) (b:Option (List α)) (c:List α),cs.foldl better b=some c->(b=some c\/c∈cs)/\(∀ b',b=some b'->c.length<=b'.length)/\∀ d∈cs,c.length<=d.length
  | [],b,c,h=>⟨.inl h,λ b' e=>by rw [List.foldl_nil,e] at h;cases h;exact Nat.le_refl _,λ d hd=>nomatch hd⟩
  | d::cs,b,c,h=>by
    rw [List.foldl_cons] at h;obtain ⟨h1,h2,h3⟩:=CO cs _ c h;cases b with
    | none=>
      have e:better none d=some d:=rfl;rw [e] at h1 h2;refine ⟨.inr ?_,λ b' e=>(by cases e),λ d' hd'=> ?_⟩
      · rcases h1 with h1 | h1
        · cases h1;exact List.mem_cons_self
        · exact List.mem_cons_of_mem _ h1
      · rcases List.mem_cons.mp hd' with rfl | z
        · exact h2 _ rfl
        · exact h3 _ z
    | some b0=>
      by_cases hc:d.length<b0.length
      · have e:better (some b0) d=some d:=if_pos hc;rw [e] at h1 h2;have g:=h2 _ rfl;refine ⟨.inr ?_,λ b' e=>by cases e;omega,λ d' hd'=> ?_⟩
        · rcases h1 with h1 | h1
          · cases h1;exact List.mem_cons_self
          · exact List.mem_cons_of_mem _ h1
        · rcases List.mem_cons.mp hd' with rfl | z
          · exact g
          · exact h3 _ z
      · have e:better (some b0) d=some b0:=if_neg hc;rw [e] at h1 h2;have g:=h2 _ rfl;refine ⟨?_,λ b' e=>by cases e;exact g,λ d' hd'=> ?_⟩
        · rcases h1 with h1 | h1
          · exact .inl h1
          · exact .inr (List.mem_cons_of_mem _ h1)
        · rcases List.mem_cons.mp hd' with rfl | z
          · omega
          · exact h3 _ z
theorem better_some:∀ (cs:List (List α)) (b:Option (List α)),(b≠none\/cs≠[])->∃ c,cs.foldl better b=some c
  | [],b,h=>by
    cases b with
    | none=>rcases h with h | h <;> exact absurd rfl h
    | some b=>exact ⟨b,rfl⟩
  | d::cs,b,h=>by
    rw [List.foldl_cons];refine better_some cs _ (.inl ?_);cases b with
    | none=>exact λ z=>absurd (show (some d:Option (List α))=none from z) (by simp)
    | some b=>
      by_cases hc:d.length<b.length
      · rw [show better (some b) d=some d from if_pos hc];exact λ z=>by cases z
      · rw [show better (some b) d=some b from if_neg hc];exact λ z=>by cases z
section
variable [DecidableEq α] (opn:Nat->α) (cls:α) (T:Nat->Nat->List α) (xs:List α) (i j:Nat)
def cand (p:Nat):Option (List α):=if (j - i)%p≠0\/60<(j - i) / p then none else if sl xs i (j - p)≠sl xs (i+p) j then none else some (opn ((j - i) / p)::(T i (i+p)++[cls]))
def gStep (b:Option (List α)) (p:Nat):Option (List α):=match cand opn cls T xs i j p with
  | none=>b
  | some c=>better b c
def asGroup:Option (List α):=(List.range' 1 ((j - i) / 2)).foldl (gStep opn cls T xs i j) none
def mids:Option (List α):=(List.range' (i+1) (j - i - 1)).foldl (λ b m=>better b (T i m++T m j)) (asGroup opn cls T xs i j)
def fewW:List α:=if j - i=1 then sl xs i j else (mids opn cls T xs i j).getD []
end
theorem LB [DecidableEq α] {opn:Nat->α} {cls:α} {T:Nat->Nat->List α} {xs:List α} {i j:Nat}:∀ (ps:List Nat) (b:Option (List α)),ps.foldl (gStep opn cls T xs i j) b=(ps.filterMap (cand opn cls T xs i j)).foldl better b
  | [],b=>rfl
  | p::ps,b=>by
    rw [List.foldl_cons,LB ps,List.filterMap_cons];unfold gStep;split <;> rename_i h <;> rw [h];rfl
theorem mfold {T:Nat->Nat->List α} {i j:Nat}:∀ (ms:List Nat) (b:Option (List α)),ms.foldl (λ b m=>better b (T i m++T m j)) b=(ms.map λ m=>T i m++T m j).foldl better b
  | [],b=>rfl
  | m::ms,b=>by rw [List.foldl_cons,mfold ms,List.map_cons,List.foldl_cons]
theorem Rt [DecidableEq α] {opn:Nat->α} {cls:α} {plain:α->Prop} {T:Nat->Nat->List α} {xs:List α} {i j:Nat} (hx:∀ x∈xs,plain x) (h60:xs.length<=60) (hij:i<j) (hj:j<=xs.length)
    (ih:∀ a b,a<b->b<=xs.length->b - a<j - i->Spr opn cls plain (T a b) (sl xs a b)/\∀ k,Cost (sl xs a b) k->(T a b).length<=k):
    Spr opn cls plain (fewW opn cls T xs i j) (sl xs i j)/\∀ k,Cost (sl xs i j) k->(fewW opn cls T xs i j).length<=k:=by
  have hl:=sl_len (i:=i) hj;by_cases h1:j - i=1
  · have e:fewW opn cls T xs i j=sl xs i j:=if_pos h1;rw [e];have e2:sl xs i j=[xs[i]'(by omega)]:=by
      have e3:sl xs (i+1) j=[]:=by unfold sl;rw [show j - (i+1)=0 by omega];rfl
      rw [sl_cons hij hj,e3]
    refine ⟨?_,λ k hk=> ?_⟩
    · rw [e2];exact .one _ (hx _ (List.getElem_mem _)) .nil
    · rw [hl,h1];generalize sl xs i j=L at hk hl;cases hk with
      | nil=>simp at hl;omega
      | one x _=>omega
      | grp t _ _ _ _=>omega
  have e:fewW opn cls T xs i j=(mids opn cls T xs i j).getD []:=if_neg h1;have em:mids opn cls T xs i j=((List.range' (i+1) (j - i - 1)).map λ m=>T i m++T m j).foldl better (asGroup opn cls T xs i j):=mfold _ _;obtain ⟨c,hc⟩:=better_some ((List.range' (i+1) (j - i - 1)).map λ m=>T i m++T m j) (asGroup opn cls T xs i j) (.inr λ z=>by
    have:=congrArg List.length z;rw [List.length_map,List.length_range'] at this;simp at this;omega)
  rw [<-em] at hc;rw [e,hc];show Spr opn cls plain c _/\∀ k,_->c.length<=k;rw [em] at hc;obtain ⟨g1,g2,g3⟩:=CO _ _ _ hc;have ga:asGroup opn cls T xs i j=((List.range' 1 ((j - i) / 2)).filterMap (cand opn cls T xs i j)).foldl better none:=LB _ _;have grpOk:∀ p d,p∈List.range' 1 ((j - i) / 2)->cand opn cls T xs i j p=some d->Spr opn cls plain d (sl xs i j):=by
    intro p d hp hd;have hp:=List.mem_range'_1.mp hp;unfold cand at hd;split at hd
    · cases hd
    · rename_i n1
      split at hd
      · cases hd
      · rename_i n2
        cases hd;have n2:sl xs i (j - p)=sl xs (i+p) j:=Decidable.of_not_not n2;have hm:(j - i)%p=0:=Decidable.of_not_not λ z=>n1 (.inl z);have ht:(j - i) / p<=60:=Nat.le_of_not_lt λ z=>n1 (.inr z);have hd:p*((j - i) / p)=j - i:=by have:=Nat.div_add_mod (j - i) p;omega
        have t2:2<=(j - i) / p:=(Nat.le_div_iff_mul_le (by omega)).mpr (by omega);have per:=Qh (l:=sl xs i j) (p:=p) (t:=(j - i) / p) (by rw [hl,hd]) (by rw [hl,ED (by omega),GW,show i+(j - i - p)=j - p by omega];exact n2);rw [ED (by omega)] at per;have:=Spr.grp (opn:=opn) (cls:=cls) (plain:=plain) ((j - i) / p) t2 ht (u:=sl xs i (i+p)) (λ z=>by have:=sl_len (xs:=xs) (i:=i) (j:=i+p) (by omega);rw [z] at this;simp at this;omega) (ih i (i+p) (by omega) (by omega) (by omega)).1 .nil;rw [List.append_nil, <-per] at this;exact this
  refine ⟨?_,λ k hk=> ?_⟩
  · rcases g1 with g1 | g1
    · rw [ga] at g1;obtain ⟨q1,_,_⟩:=CO _ _ _ g1;rcases q1 with q1 | q1
      · cases q1
      · obtain ⟨p,hp,hd⟩:=List.mem_filterMap.mp q1;exact grpOk p c hp hd
    · obtain ⟨m,hm,rfl⟩:=List.mem_map.mp g1;have hm:=List.mem_range'_1.mp hm;rw [<-sl_app (xs:=xs) (i:=i) (m:=m) (j:=j) (by omega) (by omega)];exact (ih i m (by omega) (by omega) (by omega)).1.app (ih m j (by omega) (by omega) (by omega)).1
  ·
    have split_at:∀ m k1 k2,i<m->m<j->Cost (sl xs i m) k1->Cost (sl xs m j) k2->c.length<=k1+k2:=λ m k1 k2 a b c1 c2=>by
      have:=g3 _ (List.mem_map.mpr ⟨m,List.mem_range'_1.mpr ⟨by omega,by omega⟩,rfl⟩);rw [List.length_append] at this;have:=(ih i m a (by omega) (by omega)).2 _ c1;have:=(ih m j b (by omega) (by omega)).2 _ c2;omega
    generalize hL:sl xs i j=L at hk;cases hk with
    | nil=>rw [hL] at hl;simp at hl;omega
    | one x hk1=>
      rename_i l m
      rw [sl_cons hij hj] at hL;injection hL with e1 e2;have c1:Cost (sl xs i (i+1)) 1:=by
        rw [sl_cons (by omega) (by omega),sl_nil];exact .one _ .nil
      have:=split_at (i+1) 1 m (by omega) (by omega) c1 (by rw [e2];exact hk1);omega
    | grp t h2 hu c1 c2=>
      rename_i u l m k
      have hlen:=congrArg List.length hL;rw [hl,List.length_append,rep_len] at hlen;have hu0:0<u.length:=List.length_pos_iff.mpr hu;have hmul:u.length*2<=u.length*t:=Nat.mul_le_mul_left _ h2;have et:u=sl xs i (i+u.length):=by
        rw [<-ED (j:=j) (by omega),hL,MW _ _ _ (by omega)]
      by_cases hl0:l=[]
      · subst hl0;rw [List.append_nil] at hL;simp only [List.length_nil,Nat.add_zero] at hlen;have hmod:(j - i)%u.length=0:=by rw [hlen,Nat.mul_mod_right]
        have hdiv:(j - i) / u.length=t:=by rw [hlen,Nat.mul_div_cancel_left _ hu0]
        have t60:t<=60:=by
          have:1*t<=u.length*t:=Nat.mul_le_mul_right _ hu0;omega
        have hper:sl xs i (j - u.length)=sl xs (i+u.length) j:=by
          have:=Ml (u:=u) (t:=t) (by omega);rw [<-hL,hl,ED (by omega),GW,show i+(j - i - u.length)=j - u.length by omega] at this;exact this
        have hcand:cand opn cls T xs i j u.length=some (opn t::(T i (i+u.length)++[cls])):=by
          unfold cand;rw [if_neg (by rw [hmod,hdiv];omega),if_neg (λ z=>z hper),hdiv]
        have hin:(opn t::(T i (i+u.length)++[cls]))∈(List.range' 1 ((j - i) / 2)).filterMap (cand opn cls T xs i j):=
          List.mem_filterMap.mpr ⟨u.length,List.mem_range'_1.mpr ⟨by omega,by
            have:u.length<=(j - i) / 2:=(Nat.le_div_iff_mul_le (by decide)).mpr (by omega);omega⟩,hcand⟩
        obtain ⟨b,hb⟩:=better_some ((List.range' 1 ((j - i) / 2)).filterMap (cand opn cls T xs i j)) none (.inr λ z=>by rw [z] at hin;cases hin);have q3:=(CO _ _ _ hb).2.2 _ hin;have:=g2 b (by rw [ga];exact hb);have q4:=(ih i (i+u.length) (by omega) (by omega) (by omega)).2 m (by rw [<-et];exact c1);simp only [List.length_cons,List.length_append,List.length_nil] at q3;omega
      · have hl1:0<l.length:=List.length_pos_iff.mpr hl0;have er:l=sl xs (i+u.length*t) j:=by
          rw [<-GW,hL,Od]
        have ep:rep u t=sl xs i (i+u.length*t):=by
          rw [<-ED (j:=j) (by omega),hL, <-rep_len,List.take_left]
        have cg:Cost (sl xs i (i+u.length*t)) (m+0+2):=by
          have:=Cost.grp t h2 hu c1 .nil;rw [List.append_nil,ep] at this;exact this
        have:=split_at (i+u.length*t) (m+0+2) k (by omega) (by omega) cg (by rw [<-er];exact c2);omega
def Wf [DecidableEq α] (opn:Nat->α) (cls:α) (xs:List α):Nat->Nat->Nat->List α
  | 0=>λ _ _=>[]
  | L+1=>λ i j=>if j - i=L+1 then fewW opn cls (Wf opn cls xs L) xs i j else Wf opn cls xs L i j
def W [DecidableEq α] (opn:Nat->α) (cls:α) (xs:List α) (i j:Nat):List α:=Wf opn cls xs (j - i) i j
theorem P0 [DecidableEq α] {opn:Nat->α} {cls:α} {xs:List α} {i j:Nat}:∀ {L:Nat},j - i<=L->Wf opn cls xs L i j=W opn cls xs i j
  | 0,h=>by unfold W;rw [show j - i=0 by omega]
  | L+1,h=>by
    by_cases e:j - i=L+1
    · unfold W;rw [e]
    · show (if j - i=L+1 then _ else Wf opn cls xs L i j)=_;rw [if_neg e];exact P0 (by omega)
theorem G6 {β γ:Type} {f g:β->Option γ}:∀ {l:List β},(∀ x∈l,f x=g x)->l.filterMap f=l.filterMap g
  | [],_=>rfl
  | x::l,h=>by rw [List.filterMap_cons,List.filterMap_cons,h x List.mem_cons_self,G6 λ y hy=>h y (List.mem_cons_of_mem _ hy)]
theorem Lu [DecidableEq α] {opn:Nat->α} {cls:α} {xs:List α} {i j:Nat} {T T':Nat->Nat->List α} (h:∀ a b,i<=a->a<b->b<=j->b - a<j - i->T a b=T' a b):fewW opn cls T xs i j=fewW opn cls T' xs i j:=by
  unfold fewW mids asGroup;rw [LB,LB,mfold,mfold];have e1:(List.range' 1 ((j - i) / 2)).filterMap (cand opn cls T xs i j)=(List.range' 1 ((j - i) / 2)).filterMap (cand opn cls T' xs i j):=by
    refine G6 λ p hp=> ?_;have hp:=List.mem_range'_1.mp hp;unfold cand;rw [h i (i+p) (by omega) (by omega) (by omega) (by omega)]
  have e2:((List.range' (i+1) (j - i - 1)).map λ m=>T i m++T m j)=(List.range' (i+1) (j - i - 1)).map λ m=>T' i m++T' m j:=by
    refine List.map_congr_left λ m hm=> ?_;have hm:=List.mem_range'_1.mp hm;rw [h i m (by omega) (by omega) (by omega) (by omega),h m j (by omega) (by omega) (by omega) (by omega)]
  rw [e1,e2]
theorem W_step [DecidableEq α] {opn:Nat->α} {cls:α} {xs:List α} {i j:Nat} (h:i<j):W opn cls xs i j=fewW opn cls (W opn cls xs) xs i j:=by
  obtain ⟨L,hL⟩:∃ L,j - i=L+1:=⟨j - i - 1,by omega⟩;have:W opn cls xs i j=fewW opn cls (Wf opn cls xs L) xs i j:=by
    unfold W;rw [hL];exact if_pos hL
  rw [this];exact Lu λ a b _ h1 h2 h3=>P0 (by omega)
theorem W_ok [DecidableEq α] {opn:Nat->α} {cls:α} {plain:α->Prop} {xs:List α} (hx:∀ x∈xs,plain x) (h60:xs.length<=60):∀ (n i j:Nat),i<j->j<=xs.length->j - i<=n->
    Spr opn cls plain (W opn cls xs i j) (sl xs i j)/\∀ k,Cost (sl xs i j) k->(W opn cls xs i j).length<=k
  | 0,i,j,h,hj,hn=>by omega
  | n+1,i,j,h,hj,hn=>by
    rw [W_step h];exact Rt hx h60 h hj λ a b h1 h2 h3=>W_ok hx h60 n a b h1 h2 (by omega)
theorem W_all [DecidableEq α] {opn:Nat->α} {cls:α} {plain:α->Prop} {xs:List α} (hx:∀ x∈xs,plain x) (h60:xs.length<=60) (h0:xs≠[]):Spr opn cls plain (W opn cls xs 0 xs.length) xs/\(W opn cls xs 0 xs.length).length=M xs:=by
  have:=W_ok (opn:=opn) (cls:=cls) hx h60 xs.length 0 xs.length (List.length_pos_iff.mpr h0) (Nat.le_refl _) (by omega);rw [sl_all] at this;exact ⟨this.1,Nat.le_antisymm (this.2 _ (LM xs).1) (M_le this.1.cost)⟩
def Blk (xs:List α) (b size t:Nat):Prop:=∀ k,k<t->sl xs (b+size*k) (b+size*k+size)=sl xs b (b+size)
theorem blk_rep {xs:List α} {b size:Nat}:∀ {t:Nat},Blk xs b size t->sl xs b (b+size*t)=rep (sl xs b (b+size)) t
  | 0,_=>by rw [Nat.mul_zero,Nat.add_zero,sl_nil];rfl
  | t+1,h=>by
    rw [Jp (t:=t) (s:=1), <-blk_rep λ k hk=>h k (by omega)];have:=h t (Nat.lt_succ_self _);rw [show rep (sl xs b (b+size)) 1=sl xs b (b+size) by simp [rep], <-this,Nat.mul_succ, <-Nat.add_assoc,sl_app (by omega) (by omega)]
structure Sm (α:Type) where
  held:List (List α)
  times:List Nat
  count:Nat
section
variable [DecidableEq α] (cls:α) (tms:α->Option (Option Nat)) (fits:α->Bool) (most:Nat)
def step (s:Sm α) (w:α):Option (Sm α):=
  if w=cls then
    match s.held,s.times with
    | u::v::st,t::ts=>if u≠[]/\s.count+u.length*(t - 1)<=most then some ⟨(v++rep u t)::st,ts,s.count+u.length*(t - 1)⟩ else none
    | _,_=>none
  else match tms w with
    | some (some t)=>if s.count<=most then some ⟨[]::s.held,t::s.times,s.count⟩ else none
    | some none=>none
    | none=>match s.held with
      | h::st=>if fits w=true/\s.count+1<=most then some ⟨(h++[w])::st,s.times,s.count+1⟩ else none
      | []=>none
def run:Sm α->List α->Option (Sm α)
  | s,[]=>some s
  | s,w::ws=>match step cls tms fits most s w with
    | some s'=>run s' ws
    | none=>none
end
theorem run_app [DecidableEq α] {cls:α} {tms:α->Option (Option Nat)} {fits:α->Bool} {most:Nat}:∀ (ws ws':List α) (s:Sm α),run cls tms fits most s (ws++ws')=match run cls tms fits most s ws with | some s'=>run cls tms fits most s' ws' | none=>none
  | [],ws',s=>rfl
  | w::ws,ws',s=>by
    have e:∀ vs,run cls tms fits most s (w::vs)=match step cls tms fits most s w with | some s'=>run cls tms fits most s' vs | none=>none:=λ _=>rfl
    rw [List.cons_append,e,e];cases step cls tms fits most s w with
    | none=>rfl
    | some s'=>exact run_app ws ws' s'
theorem run_spr [DecidableEq α] {opn:Nat->α} {cls:α} {plain:α->Prop} {tms:α->Option (Option Nat)} {fits:α->Bool} {most:Nat} (hp:∀ x,plain x->x≠cls/\tms x=none/\fits x=true) (ho:∀ t,2<=t->t<=60->opn t≠cls/\tms (opn t)=some (some t))
    {ws l:List α} (h:Spr opn cls plain ws l):∀ (a:List α) (st:List (List α)) (ts:List Nat) (c:Nat),c+l.length<=most->run cls tms fits most ⟨a::st,ts,c⟩ ws=some ⟨(a++l)::st,ts,c+l.length⟩:=by
  induction h with
  | nil=>intro a st ts c _;rw [List.append_nil];rfl
  | one x px _ ih=>
    intro a st ts c hc
    rename_i ws l _
    obtain ⟨h1,h2,h3⟩:=hp x px;rw [List.length_cons] at hc;have e:step cls tms fits most ⟨a::st,ts,c⟩ x=some ⟨(a++[x])::st,ts,c+1⟩:=by
      unfold step;rw [if_neg h1,h2];exact if_pos ⟨h3,by show c+1<=most;omega⟩
    rw [run,e];show run cls tms fits most _ ws=_;rw [ih _ _ _ _ (by omega),List.append_assoc,List.length_cons];show some (Sm.mk _ _ _)=some (Sm.mk _ _ _);rw [show c+1+l.length=c+(l.length+1) by omega];rfl
  | grp t t2 t60 hu _ _ ih1 ih2=>
    intro a st ts c hc
    rename_i us u ws l _ _
    obtain ⟨h1,h2⟩:=ho t t2 t60;rw [List.length_append,rep_len] at hc;have hmul:u.length*t=u.length+u.length*(t - 1):=by
      obtain ⟨s,rfl⟩:∃ s,t=s+1:=⟨t - 1,by omega⟩;rw [Nat.add_sub_cancel,Nat.mul_succ,Nat.add_comm]
    have e:step cls tms fits most ⟨a::st,ts,c⟩ (opn t)=some ⟨[]::a::st,t::ts,c⟩:=by
      unfold step;rw [if_neg h1,h2];exact if_pos (by show c<=most;omega)
    rw [run,e];show run cls tms fits most _ (us++cls::ws)=_;rw [run_app,ih1 _ _ _ _ (by omega)];show run cls tms fits most _ (cls::ws)=_;have e2:step cls tms fits most ⟨([]++u)::a::st,t::ts,c+u.length⟩ cls=some ⟨(a++rep u t)::st,ts,c+u.length+u.length*(t - 1)⟩:=by
      unfold step;rw [if_pos rfl];show (if ([]++u)≠[]/\c+u.length+([]++u).length*(t - 1)<=most then _ else _)=_;rw [List.nil_append,if_pos ⟨hu,by omega⟩]
    rw [run,e2];show run cls tms fits most _ ws=_;rw [ih2 _ _ _ _ (by omega),List.append_assoc,List.length_append,rep_len];show some (Sm.mk _ _ _)=some (Sm.mk _ _ _);rw [show c+u.length+u.length*(t - 1)+l.length=c+(u.length*t+l.length) by omega]
end
end MFew
open L2
local macro_rules | `(tactic| walk_at "t") => `(tactic| first | (with_reducible first | refine RH ?_ | refine Lj ?_ | refine Jk ?_ | refine Xg ?_ | refine U3 ?_ | refine S9 ?_ | refine Rz ?_ | refine Wa ?_ | refine Qk ?_ | refine QV ?_ | refine QL ?_ | refine Ql ?_ | refine QC ?_ | refine RG ?_ | refine Rf ?_ | refine O4 ?_ | refine WI ?_ | refine Um ?_ | refine UR ?_ | refine RK ?_ | refine OL ?_ | refine OX ?_ | refine VH ?_ | refine RE ?_ | refine OJ ?_ | refine Rq ?_ | refine OF ?_ | refine QY ?_ | refine Q4 ?_ | refine R1 ?_ | refine OB ?_ | refine Wb ?_ | refine Oz ?_ | refine Mm ?_ | refine Rl ?_ | refine HU ?_ | refine Ls ?_ | refine LF ?_ | refine Ow ?_ | refine Kv ?_ | refine Pj ?_ | refine Pf ?_ | refine Qo ?_ | refine UW ?_ | refine Ts ?_ | refine RQ ?_ | refine O8 ?_ | refine Rv ?_ | refine V2 ?_ | refine SU ?_ | refine U1 ?_ | refine UL ?_ | refine Vw ?_ | refine Tj ?_ | refine Te ?_ | refine UM ?_ | refine UZ ?_ | refine Nd ?_ | refine O0 ?_ | refine Nt ?_ | refine NW ?_ | refine Rr ?_ | refine Ry ?_ | refine OQ ?_ | refine Oo ?_) | ((with_reducible apply QB); exact rfl) | (with_reducible refine Qw (by simp only [List.length_cons, List.length_nil]; decide) ?_))
local macro_rules | `(tactic| walk_at "s") => `(tactic| first | walk_at "t" | (with_reducible refine RF ?_))
local macro_rules | `(tactic| walk_at "v") => `(tactic| repeat walk_at "t")
local macro_rules | `(tactic| walk_at "w") => `(tactic| repeat walk_at "s")
local macro_rules | `(tactic| wrow_has $H $n) => do let t := ((n.getId.toString.drop 1).toString); let i := λ (a : String) => Lean.mkIdent (Lean.Name.mkSimple (a ++ t)); `(tactic| (generalize e : upd $H $(i "p") _ = $(i "H"); have $(i "s"):ident : Same $H $(i "H") := (by rw [<-e]; exact Aj $(i "n")); have $(i "g"):ident := (congrFun e $(i "p")).symm.trans Ag; clear e))
local macro_rules | `(tactic| row_lines $H $n) => do let t := ((n.getId.toString.drop 1).toString); let i := λ (a : String) => Lean.mkIdent (Lean.Name.mkSimple (a ++ t)); `(tactic| (intro $(i "p"):ident $(i "n"):ident; wrow_has $H $n))
local macro_rules | `(tactic| walk_at "x") => `(tactic| repeat first | walk_at "s" | (with_reducible refine AR (by decide) ?_))
namespace K05
open PySem L2 PySem.Spec PyProof.Rows
seal L2.PE L2.PT L2.PW L2.PA L2.PS L2.PSs L2.PI L2.PG L2.PTs L2.PGs
section
variable {P:Program} {w:World} {K:PySem.W.Frag} {mg:Str->Option Value} {base:Heap}
structure Cs where
  Draft:Addr
structure Txt (K:PySem.W.Frag) (mg:Str->Option Value) (c:Cs):Prop where
  own:Own mg ["isinstance","int","bool","str","list","tuple","len","all","range","sum","zip","enumerate"]
  g_Draft:mg "Draft"=some (.ref c.Draft)
  kd_Draft:Kind K c.Draft
  is_Draft:PySem.W.kitOne K (.ref c.Draft) (.ref c.Draft)=some true
  na_Draft_shafts:NoAttr K c.Draft "shafts"
  na_Draft_treadles:NoAttr K c.Draft "treadles"
  na_Draft_threading:NoAttr K c.Draft "threading"
  na_Draft_ties:NoAttr K c.Draft "ties"
  na_Draft_treading:NoAttr K c.Draft "treading"
  na_Draft_warp:NoAttr K c.Draft "warp"
  na_Draft_weft:NoAttr K c.Draft "weft"
  k_MOST_SHAFTS:∃ t,mg "MOST_SHAFTS"=some (.int 16 t)
  k_MOST_TREADLES:∃ t,mg "MOST_TREADLES"=some (.int 16 t)
  k_MOST_ENDS:∃ t,mg "MOST_ENDS"=some (.int 60 t)
  k_MOST_PICKS:∃ t,mg "MOST_PICKS"=some (.int 60 t)
  k_FIGURES:∃ t,mg "FIGURES"=some (.str "0123456789" t)
  k_MOST_FIGURES:∃ t,mg "MOST_FIGURES"=some (.int 3 t)
  k_COLOURS:∃ t,mg "COLOURS"=some (.str "abcdefghijklmnopqrstuvwxyz" t)
  k_LEAST_TIMES:∃ t,mg "LEAST_TIMES"=some (.int 2 t)
  k_MOST_TIMES:∃ t,mg "MOST_TIMES"=some (.int 60 t)
  k_OPENING:∃ t,mg "OPENING"=some (.str "(" t)
  k_CLOSING:∃ t,mg "CLOSING"=some (.str ")" t)
  k_NONE:∃ t,mg "NONE"=some (.str "-" t)
  k_TOGETHER:∃ t,mg "TOGETHER"=some (.str "+" t)
def Jq (K:PySem.W.Frag) (ts:List Addr):Sp:=λ vs H Q _=>∃ (a:Addr) (ns:List Int),vs=[.ref a]/\SqL K H a (ns.map V.int)/\ns.length<=63/\(∀ T∈ts,H T=some (.tbl #[]))/\ts.Nodup/\∀ H',Q (.bl true) H'
end
section
variable {P:Program} {w:World} {K:PySem.W.Frag} {mg:Str->Option Value} {base:Heap} {c:Cs} {TT1 TT2 TT3:Addr}
def Cd:Nat->Sp
  | 0=>λ _ _ _ _=>False
  | n+1=>λ vs H Q _=>∃ v u d,vs=[v,u]/\Rp H FT n v d/\Rp H FT n u d/\∀ H',Same H H'->Q (.bl true) H'
noncomputable abbrev CH:Stmt:=top 60
theorem Jx:FnScope ["_law_found","_law_due"] ["_law_found","_law_due"] (Ai CH):=⟨rfl,rfl,rfl,by decide +kernel,rfl,by decide +kernel,by decide +kernel⟩
theorem Il {n:Nat} {f:Addr} {fd:FuncData} (F:Fun K "_law_same" "_law_same" CH f fd) (T:Txt K mg c) (c__law_same:CallF P w K mg base "_law_same" (n+1) ["_law_found","_law_due"] (Cd n)):FnOk P w K mg base CX0 (n+2) f fd ["_law_found","_law_due"] (Cd (n+1)):=by
  refine F.ok Jx (λ vs H Q E h=> ?_) (λ cdv A outer s H vs Q E hr h=> ?_)
  · obtain ⟨v,u,d,rfl,_⟩:=h;rfl
  · obtain ⟨v,u,d,rfl,rv,ru,k⟩:=h;refine ⟨_,(Ac (AB (AT (Ah (OD (K:=K)) rfl (T.own _ (by decide)) boot_isinstance (Aa (pv 1) (Aa (Cj (Aa (Bt rfl (T.own _ (by decide)) AF) (Aa (Bt rfl (T.own _ (by decide)) AI) Ab))) Ab)))) (Ac (AB (PW.pt (EH (An IL (Ah (A8 (K:=K)) rfl (T.own _ (by decide)) boot_isinstance (Aa (pv 0) (Aa (Bt rfl (T.own _ (by decide)) AF) Ab))) (Ah (A8 (K:=K)) rfl (T.own _ (by decide)) boot_isinstance (Aa (pv 1) (Aa (Bt rfl (T.own _ (by decide)) AF) Ab))) (Aq _)) (C5 (An IL (Ah (A8 (K:=K)) rfl (T.own _ (by decide)) boot_isinstance (Aa (pv 0) (Aa (Bt rfl (T.own _ (by decide)) AI) Ab))) (Ah (A8 (K:=K)) rfl (T.own _ (by decide)) boot_isinstance (Aa (pv 1) (Aa (Bt rfl (T.own _ (by decide)) AI) Ab))) (Aq _))))) (Ae (Al El)) Ar)
      (Ae (Al (Cg (A6 BH (Ah (AC (K:=K)) rfl (T.own _ (by decide)) boot_len (Aa (pv 0) Ab)) (Ah (AC (K:=K)) rfl (T.own _ (by decide)) boot_len (Aa (pv 1) Ab)) (Aq _)) (Du (Ah (J9 (K:=K)) rfl (T.own _ (by decide)) Da (Aa (Kl (K:=K) (Qc (K:=K) rfl (T.own _ (by decide)) (Aa (pv 0) (Aa (pv 1) Ab))) (λ _ _ _ _=>Ax) (λ _ _ _ _=>(Ad c__law_same hr (Aa (pv 0) (Aa (pv 1) Ab))))) Ab))))))) Ar)
      (Ae (Al (Cg (A6 BH (Ah (A8 (K:=K)) rfl (T.own _ (by decide)) boot_isinstance (Aa (pv 0) (Aa (Bt rfl (T.own _ (by decide)) boot_bool) Ab))) (Ah (A8 (K:=K)) rfl (T.own _ (by decide)) boot_isinstance (Aa (pv 1) (Aa (Bt rfl (T.own _ (by decide)) boot_bool) Ab))) (Aq _)) (Du (A6 BH (pv 0) (pv 1) (Aq _))))))),?_⟩
    walk_at "w";intro p hp;walk_at "w";have sp:=Aj (o:=HO.tup [V.ty "list",V.ty "tuple"]) hp;refine N1 (ns:=["list","tuple"]) Ag (ru.same sp).ty (UB d) ?_;have rv:=rv.same sp;have ru:=ru.same sp;generalize upd H p (HO.tup [V.ty "list",V.ty "tuple"])=H1 at rv ru sp ⊢;walk_at "w";refine HW (λ hc=> ?_) (λ hc=> ?_)
    · walk_at "w";refine AN rv.ty (GY d) ?_;walk_at "w";refine AN ru.ty (GY d) ?_;walk_at "w";refine Le (λ q=>absurd rfl q) (λ _=> ?_);walk_at "w";refine AN rv.ty (FG d) ?_;walk_at "w";refine AN ru.ty (FG d) ?_;walk_at "w";refine Le (λ q=>absurd rfl q) (λ _=> ?_);walk_at "w";obtain ⟨m,a,xs,hm,rfl,sa,la,ba,ea⟩:=rv.seq (K:=K) hc;obtain ⟨m',b,zs,hm',rfl,sb,lb,bb,eb⟩:=ru.seq (K:=K) hc;subst hm;cases hm';refine LZ sa ?_;walk_at "w";refine LZ sb ?_;walk_at "w";refine A5 (λ _=> ?_) (λ q=>absurd (by rw [la,lb]) q);walk_at "w";refine ⟨B9 d,B9 d,a,b,rfl,⟨_,sa⟩,⟨_,sb⟩,λ D hD=> ?_⟩;refine OG (xs:=xs) (zs:=zs) (by omega) (λ i ys H'=>ys=(List.replicate i true).map V.bl/\Same H1 H'/\H' D=some (.lst ys)) ⟨rfl,Bc (Same.refl _) hD,Ag⟩ (λ i ys H' _ ⟨_,s,_⟩=>⟨sa.same s,sb.same s⟩) ?_ ?_
      · rintro i x z ys H' q hx hz ⟨rfl,s1,hl⟩ hq;refine ⟨((Kp.refl _).set rfl).set rfl,Rk ?_⟩;walk_at "w";have hi:i<(A7 d).length:=by
          have:=(List.getElem?_eq_some_iff.mp hx).1;omega
        have hd:(A7 d)[i]?=some (A7 d)[i]:=List.getElem?_eq_getElem hi;have s2:Same H1 (upd H' q (HO.tup [x,z])):=s1.trans (Aj hq);refine ⟨x,z,(A7 d)[i],rfl,(ea i x _ hx hd).same s2,(eb i z _ hz hd).same s2,λ H'' s3=> ?_⟩;have hl':H'' D=some (.lst ((List.replicate i true).map V.bl)):=s3 _ _ (Aj hq _ _ hl);refine ⟨hl',?_,?_,?_,Ag⟩
        · rw [List.length_map,List.length_replicate];exact Nat.lt_of_lt_of_le hi (Nat.le_trans (by omega) (show 100000<=sizeLine by decide))
        · rw [List.replicate_succ',List.map_append];rfl
        · exact Bc (s2.trans s3) hD
      · rintro ys H' ⟨rfl,s1,hl⟩;walk_at "w";refine Hk (SqL.of hl) ?_;have e:(List.replicate xs.length true).all id=true:=by simp
        rw [e];exact k H' (sp.trans s1)
    · walk_at "w";refine AN rv.ty (LL d) ?_;walk_at "w";refine AN ru.ty (LL d) ?_;walk_at "w";refine A5 (λ _=> ?_) (λ q=>absurd rfl q);walk_at "w";have e:=Os rv ru hc;subst e;refine ⟨Mt rv hc,?_⟩;rw [decide_eq_true rfl];exact k H1 sp
theorem FQ {f:Addr} {fd:FuncData} (D:DefAt K mg "_law_same" CH ["_law_found","_law_due"] f fd) (T:Txt K mg c):∀ n,FnOk P w K mg base CX0 (n+1) f fd ["_law_found","_law_due"] (Cd n)
  | 0=>⟨λ _ _ _ _ h=>h.elim,λ _ _ _ _ _ _ _ _ _ _ _ _ _ h=>h.elim⟩
  | n+1=>Il D.fn T (D.call (FQ D T n))
def Gw (K:PySem.W.Frag):Sp:=λ vs H Q _=>∃ x,vs=[x]/\Ty K H x/\Q (.bl (Nr x)) H
noncomputable abbrev E3:Stmt:=top 13
theorem KC:FnScope ["thing"] ["thing"] (Ai E3):=⟨rfl,rfl,rfl,by decide +kernel,rfl,by decide +kernel,by decide +kernel⟩
theorem CQ {f:Addr} {fd:FuncData} (F:Fun K "is_whole" "is_whole" E3 f fd) (T:Txt K mg c):FnOk P w K mg base CX0 1 f fd ["thing"] (Gw K):=by
  refine F.ok KC (λ vs H Q E h=> ?_) (λ cdv A outer s H vs Q E hr h=> ?_)
  · obtain ⟨x,rfl,_⟩:=h;rfl
  · obtain ⟨x,rfl,⟨n,ty⟩,k⟩:=h;refine ⟨_,(Ae (Al (Cg (Ah (A8 (K:=K)) rfl (T.own _ (by decide)) boot_isinstance (Aa (pv 0) (Aa (Bt rfl (T.own _ (by decide)) boot_int) Ab))) (Du (RM (Ah (A8 (K:=K)) rfl (T.own _ (by decide)) boot_isinstance (Aa (pv 0) (Aa (Bt rfl (T.own _ (by decide)) boot_bool) Ab)))))))),?_⟩;walk_at "w";refine AN ty (OC ty) ?_;walk_at "w";refine Q5 (λ hc=> ?_) (λ hc=> ?_)
    · walk_at "w";refine AN ty (NH ty) ?_;walk_at "w";exact Gm (by cases x <;> first | rfl | exact absurd hc Bool.false_ne_true) k
    · exact Gm (by cases x <;> first | rfl | exact absurd hc.symm Bool.false_ne_true) k
def A3 (K:PySem.W.Frag):Sp:=λ vs H Q _=>∃ x a b,vs=[x, .int a, .int b]/\Ty K H x/\Q (.bl (EY x a b)) H
noncomputable abbrev Fb:Stmt:=top 14
theorem KA:FnScope ["thing","least","most"] ["thing","least","most"] (Ai Fb):=⟨rfl,rfl,rfl,by decide +kernel,rfl,by decide +kernel,by decide +kernel⟩
theorem CG {f:Addr} {fd:FuncData} (F:Fun K "is_among" "is_among" Fb f fd) (T:Txt K mg c) (c_is_whole:CallF P w K mg base "is_whole" 1 ["thing"] (Gw K)):FnOk P w K mg base CX0 2 f fd ["thing","least","most"] (A3 K):=by
  refine F.ok KA (λ vs H Q E h=> ?_) (λ cdv A outer s H vs Q E hr h=> ?_)
  · obtain ⟨x,a,b,rfl,_⟩:=h;rfl
  · obtain ⟨x,a,b,rfl,ty,k⟩:=h;refine ⟨_,(Ae (Al (Cg (Ad c_is_whole hr (Aa (pv 0) Ab)) (Du (Na Ny Ny (pv 1) (pv 0) (pv 2)))))),?_⟩;walk_at "w";refine ⟨x,rfl,ty,?_⟩;walk_at "w";refine Q5 (λ hc=> ?_) (λ hc=> ?_)
    · cases x with
      | int i=>
        walk_at "w";refine Q5 (λ h1=> ?_) (λ h1=> ?_)
        · walk_at "w";exact Gm (by show _=(decide (a<=i)&&decide (i<=b));rw [h1,Bool.true_and]) k
        · walk_at "w";exact Gm (by show _=(decide (a<=i)&&decide (i<=b));rw [h1,Bool.false_and]) k
      | _=>exact absurd hc Bool.false_ne_true
    · exact Gm (by cases x <;> first | rfl | exact absurd hc.symm Bool.false_ne_true) k
theorem BF {J:It} {g:TG} {σ0:L2.St} {H:Hp} {n:Nat} {st:Nat->L2.St} {te:TE} {Q:VK} {D:Addr} {G:Nat->Str} (S:SrcOk J g σ0 H n st) (hD:H D=none) (hn:n<=100000)
    (he:∀ i H' (R:VK),i<n->Same H H'->(∀ H3,Same H' H3->R (.str (G i)) H3)->te (st i) H' R)
    (hd:∀ H',Same H H'->H' D=some (.lst (((List.range n).map G).map V.str))->Q (.ref D) H'):DW J σ0 g Mr te Q H D:=by
  refine AL (m:=0) (G:=λ i=> .str (G i)) S hD hn (λ i H' R hi s k=>he i H' R hi s λ H3 s3=>k H3 _ s3 (.str _)) λ H' ys s hl r=> ?_;rw [KM] at r;obtain ⟨b,eb,hb,fb,_⟩:=IZ r;cases eb;exact hd H' s hb
noncomputable def C1 (z:Str):V:=match MN.numOf z.cps.toList with
  | some n=>V.int n
  | none=>V.non
theorem all_map {α:Type} (p:α->Bool) (l:List α):(l.map p).all id=l.all p:=by simp [List.all_map]
theorem Qf {l:List Nat} {p:Nat->Bool}:((List.range l.length).map λ i=>p (l.getD i 0))=l.map p:=by
  refine List.ext_getElem (by simp) λ i g1 g2=> ?_;rw [List.getElem_map,List.getElem_map,List.getElem_range,List.getD_eq_getElem?_getD,List.getElem?_eq_getElem (by simpa using g2)];rfl
theorem Po (z:Str):Txt.startswith z (Str.ofString "0")=(z.cps.toList.head? == some 48):=by
  have e:(Str.ofString "0")=⟨#[48]⟩:=by decide +kernel
  rw [e];unfold Txt.startswith
  rw [MS.subAt_one];have hl:z.cps.toList.length=z.length:=by simp [Str.length]
  have h0:z.cps.toList[0]?=z.cps.toList.head?:=by rw [List.head?_eq_getElem?]
  rw [h0,Bool.eq_iff_iff,Bool.and_eq_true,decide_eq_true_iff,decide_eq_true_iff,beq_iff_eq];constructor
  · exact λ h=>h.2
  · intro h;refine ⟨?_,h⟩;show 0+1<=z.length;have:z.cps.toList≠[]:=by intro q;rw [q] at h;cases h
    have:=List.length_pos_iff.mpr this;omega
theorem Mg {z:Str} (h:MN.numOf z.cps.toList=none):C1 z= .non:=by unfold C1;rw [h]
theorem Iw {z:Str} {n:Nat} (h:MN.numOf z.cps.toList=some n):C1 z= .int n:=by unfold C1;rw [h]
def Bs:Sp:=λ vs H Q _=>∃ z:Str,vs=[.str z]/\z.length<=100/\∀ H',Same H H'->Q (C1 z) H'
noncomputable abbrev Eo:Stmt:=top 16
theorem Je:FnScope ["word"] ["word"] (Ai Eo):=⟨rfl,rfl,rfl,by decide +kernel,rfl,by decide +kernel,by decide +kernel⟩
theorem Ce {f:Addr} {fd:FuncData} (F:Fun K "number_of" "number_of" Eo f fd) (T:Txt K mg c) (c_is_among:CallF P w K mg base "is_among" 2 ["thing","least","most"] (A3 K)):FnOk P w K mg base CX0 3 f fd ["word"] Bs:=by
  refine F.ok Je (λ vs H Q E h=> ?_) (λ cdv A outer s H vs Q E hr h=> ?_)
  · obtain ⟨z,rfl,_⟩:=h;rfl
  · obtain ⟨z,rfl,hz,k⟩:=h;have hzl:z.cps.toList.length=z.length:=by simp [Str.length]
    refine ⟨_,(Ac (AB (PW.pt (EH (BL (AT (Ah (A8 (K:=K)) rfl (T.own _ (by decide)) boot_isinstance (Aa (pv 0) (Aa (Bt rfl (T.own _ (by decide)) boot_str) Ab))))) (C5 (BL (AT (Ad c_is_among hr (Aa (Ah (AC (K:=K)) rfl (T.own _ (by decide)) boot_len (Aa (pv 0) Ab)) (Aa Af (Aa (DH T.k_MOST_FIGURES) Ab))))))))) (Ae (Al B3)) Ar)
      (Ac (AB (BL (AT (Ah (J9 (K:=K)) rfl (T.own _ (by decide)) Da (Aa (AA (Qm (pv 0)) (λ _ _ _ _=>Ax) (λ _ _ _ _=>(A6 IK (pv 0) (B8 T.k_FIGURES) (by with_unfolding_all rfl)))) Ab)))) (Ae (Al B3)) Ar)
      (Ac (AB (PW.pt (En (An DN (Ah (AC (K:=K)) rfl (T.own _ (by decide)) boot_len (Aa (pv 0) Ab)) Af (Aq _)) (Ez (AT (AW (K:=K) PySem.F.plainAttrs_str PySem.F.slot_str_startswith PySem.F.type_str_startswith HP (pv 0) (Aa Ao Ab)))))) (Ae (Al B3)) Ar)
      (Ae (Al (Av Ig rfl (T.own _ (by decide)) boot_int (Aa (pv 0) Ab))))))),?_⟩
    have yes:∀ H',Same H H'->MN.numOf z.cps.toList=none->Q .non H':=λ H' sm' e=>Mg e▸k H' sm';walk_at "w";refine AN (.str _) (kb (b:=true) (by decide +kernel)) ?_;walk_at "w";refine GT (Nat.le_trans hz (by decide)) ?_;walk_at "w";refine ⟨_,_,_,rfl,⟨"int", .int _⟩,?_⟩;have eA:EY (.int (z.length:Nat)) 1 3=(decide ((1:Int)<=(z.length:Nat))&&decide (((z.length:Nat):Int)<=3)):=rfl;rw [eA];walk_at "w";refine HW (λ h1=> ?_) (λ h1=> ?_)
    · walk_at "w";refine yes H (Same.refl H) ?_;unfold MN.numOf;rw [if_neg];intro q;simp only [Bool.and_eq_true,decide_eq_true_iff] at q;have q1:=q.1.1;rw [hzl] at q1;rw [decide_eq_true (by omega:(1:Int)<=(z.length:Nat)),decide_eq_true (by omega:((z.length:Nat):Int)<=3)] at h1;cases h1
    have h2:1<=z.length/\z.length<=3:=by
      simp only [Bool.not_eq_false',Bool.and_eq_true,decide_eq_true_iff] at h1;omega
    walk_at "w";refine ⟨z,rfl,λ D hD=> ?_⟩;refine FP (G:=λ i=>MN.isDig (z.cps.toList.getD i 0)) (Pg rfl) hD (by show z.length<=100000;omega) ?_ ?_
    · intro i H' R hi s kk;walk_at "w";refine ⟨_,_,rfl,rfl,?_⟩;rw [MN.in_one,MN.fig_mem];exact kk H' (Same.refl _)
    intro H1 s1 hd1;walk_at "w";refine Hk (SqL.of hd1) ?_;have eall:((List.range z.cps.size).map λ i=>MN.isDig (z.cps.toList.getD i 0)).all id=z.cps.toList.all MN.isDig:=by
      rw [show z.cps.size=z.cps.toList.length by simp,Qf,all_map]
    rw [eall];walk_at "w";refine HW (λ h3=> ?_) (λ h3=> ?_)
    · walk_at "w";refine yes H1 s1 ?_;unfold MN.numOf;rw [if_neg];intro q;simp only [Bool.and_eq_true] at q;rw [q.1.2] at h3;cases h3
    have h4:z.cps.toList.all MN.isDig=true:=by simpa using h3
    walk_at "w";refine GT (Nat.le_trans hz (by decide)) ?_;walk_at "w";have fin:(decide (1<z.cps.toList.length)&&(z.cps.toList.head? == some 48))=false->PySem.intText? z=some ((NumText.digitsVal z.cps.toList:Nat):Int)/\Q (.int ((NumText.digitsVal z.cps.toList:Nat):Int)) H1:=λ q=>by
      refine ⟨intText_digits ?_ ?_ (by omega),?_⟩
      · intro c hc;have:=(List.all_eq_true.mp h4) c hc;unfold MN.isDig at this;rw [Bool.and_eq_true,decide_eq_true_iff,decide_eq_true_iff] at this;exact this
      · intro q;rw [q] at hzl;simp at hzl;omega
      · have e:MN.numOf z.cps.toList=some (NumText.digitsVal z.cps.toList):=by
          unfold MN.numOf;rw [if_pos];rw [q,h4,decide_eq_true (by omega:1<=z.cps.toList.length),decide_eq_true (by omega:z.cps.toList.length<=3)];rfl
        exact Iw e▸k H1 s1
    refine A5 (λ h5=> ?_) (λ h5=> ?_)
    · walk_at "w";refine ⟨rfl,?_⟩;walk_at "w";refine ⟨_,_,rfl,rfl,?_⟩;rw [Po];walk_at "w";refine HW (λ h6=> ?_) (λ h6=> ?_)
      · walk_at "w";refine yes H1 s1 ?_;unfold MN.numOf;rw [if_neg];intro q;simp only [Bool.and_eq_true] at q;have q2:=q.2;rw [h6,decide_eq_true (by omega:1<z.cps.toList.length)] at q2;cases q2
      · obtain ⟨g1,g2⟩:=fin (by rw [h6,Bool.and_false]);walk_at "w";exact ⟨z,_,rfl,g1,by omega,g2⟩
    · obtain ⟨g1,g2⟩:=fin (by rw [decide_eq_false (by omega),Bool.false_and]);walk_at "w";exact ⟨z,_,rfl,g1,by omega,g2⟩
def Bp:Sp:=λ vs H Q _=>∃ n:Nat,vs=[nV n]/\n<=1000/\Q (.str (toString ((n:Nat):Int))) H
noncomputable abbrev CW:Stmt:=top 17
theorem Hx:FnScope ["number"] ["number"] (Ai CW):=⟨rfl,rfl,rfl,by decide +kernel,rfl,by decide +kernel,by decide +kernel⟩
theorem Hj {f:Addr} {fd:FuncData} (F:Fun K "number_text" "number_text" CW f fd) (T:Txt K mg c):FnOk P w K mg base CX0 1 f fd ["number"] Bp:=by
  refine F.ok Hx (λ vs H Q E h=> ?_) (λ cdv A outer s H vs Q E hr h=> ?_)
  · obtain ⟨n,rfl,_⟩:=h;rfl
  · obtain ⟨n,rfl,hn,k⟩:=h;refine ⟨_,(Ae (Al (Av Hs rfl (T.own _ (by decide)) boot_str (Aa (pv 0) Ab)))),?_⟩;walk_at "w";refine ⟨_,rfl,?_,k⟩;have:Nat.log2 n<=n:=Nat.log2_le_self n;show Nat.log2 n<1920;omega
noncomputable abbrev opS:Str:="("
noncomputable abbrev clS:Str:=")"
noncomputable def CV (z:Str):V:=if (Txt.endswith z opS&&EY (C1 (Txt.slice z none (some (-1)))) 2 60)=true then C1 (Txt.slice z none (some (-1))) else .non
def Eh:Sp:=λ vs H Q _=>∃ z:Str,vs=[.str z]/\z.length<=100/\∀ H',Same H H'->Q (CV z) H'
theorem Ps {K:PySem.W.Frag} {H:Hp} (z:Str):Ty K H (C1 z):=by
  unfold C1;split
  · exact ⟨_, .int _⟩
  · exact ⟨_, .non⟩
noncomputable abbrev E1:Stmt:=top 34
theorem sc_times_of:FnScope ["word","times"] ["word"] (Ai E1):=⟨rfl,rfl,rfl,by decide +kernel,rfl,by decide +kernel,by decide +kernel⟩
theorem CP {f:Addr} {fd:FuncData} (F:Fun K "times_of" "times_of" E1 f fd) (T:Txt K mg c) (c_number_of:CallF P w K mg base "number_of" 3 ["word"] Bs) (c_is_among:CallF P w K mg base "is_among" 2 ["thing","least","most"] (A3 K)):FnOk P w K mg base CX0 4 f fd ["word"] Eh:=by
  refine F.ok sc_times_of (λ vs H Q E h=> ?_) (λ cdv A outer s H vs Q E hr h=> ?_)
  · obtain ⟨z,rfl,_⟩:=h;rfl
  · obtain ⟨z,rfl,hz,k⟩:=h;refine ⟨_,(Ac (Am (i:=1) sc_times_of.nd rfl (Or.inl rfl) (Ad c_number_of hr (Aa (A0 Qd (pv 0) Ca (AV (L4 JT Af))) Ab)))
      (Ac (AB (PW.pt (En (AT (AW (K:=K) PySem.F.plainAttrs_str PySem.F.slot_str_endswith PySem.F.type_str_endswith Ej (pv 0) (Aa (B8 T.k_OPENING) Ab))) (Ez (AT (Ad c_is_among (hr.mono (by decide)) (Aa (pv 1) (Aa (DH T.k_LEAST_TIMES) (Aa (DH T.k_MOST_TIMES) Ab)))))))) (Ae (Al (pv 1))) Ar)
      (Ae (Al B3)))),?_⟩
    walk_at "w";refine Rg (Nat.le_trans hz (by decide)) ?_;walk_at "w";refine ⟨_,rfl,Nat.le_trans (Txt.slice_le z _ _) hz,λ H1 s1=> ?_⟩;walk_at "w";refine ⟨rfl,?_⟩;walk_at "w";refine ⟨_,_,rfl,rfl,?_⟩;walk_at "w";refine HW (λ h1=> ?_) (λ h1=> ?_)
    · walk_at "w";refine ⟨_,_,_,rfl,Ps _,?_⟩;walk_at "w";refine HW (λ h2=> ?_) (λ h2=> ?_)
      · have e:CV z=C1 (Txt.slice z none (some (-1))):=if_pos (by rw [show Txt.endswith z opS=true from h1,h2];rfl);walk_at "w";exact e▸k H1 s1
      · have e:CV z= .non:=if_neg (by rw [h2,Bool.and_false];decide);walk_at "w";exact e▸k H1 s1
    · have e:CV z= .non:=if_neg (by rw [show Txt.endswith z opS=false from h1,Bool.false_and];decide);walk_at "w";exact e▸k H1 s1
noncomputable def tms (z:Str):Option (Option Nat):=if Txt.endswith z opS=true then some (match CV z with | .int t=>some t.toNat | _=>none) else none
theorem Ht {xs:List V} {y:V}:atI (xs++[y]) (-1)=some y:=by
  unfold atI ixN;rw [List.length_append,List.length_singleton];simp only [show ¬ ((0:Int)<= -1) by decide,if_false];rw [if_pos (by omega)];simp only [Option.bind_some];rw [show ((-1:Int)+((xs.length+1:Nat):Int)).toNat=xs.length by omega];simp
noncomputable def F7 (z:Str) (n m:Nat) (fit:Bool):Bool:=if z=clS then decide (0<n)&&decide (0<m) else if Txt.endswith z opS=true then !decide (CV z= .non) else fit
def Dh (fl:Addr) (sL:Sp):Sp:=λ vs H Q _=>∃ (z:Str) (h t a:Addr) (as:List V) (u:List Str) (ts:List V) (fit:Bool),vs=[.str z, .ref h, .ref t, .ref fl]/\z.length<=100/\H h=some (.lst (as++[.ref a]))/\H a=some (.lst (u.map V.str))/\H t=some (.lst ts)/\
  (z≠clS->Txt.endswith z opS=false->∀ Q':VK,(∀ H',Same H H'->Q' (.bl fit) H')->sL [.str z] H Q' E0)/\∀ H',Same H H'->Q (.bl (F7 z ts.length u.length fit)) H'
noncomputable abbrev DZ:Stmt:=top 35
theorem JP:FnScope ["word","held","times","fits"] ["word","held","times","fits"] (Ai DZ):=⟨rfl,rfl,rfl,by decide +kernel,rfl,by decide +kernel,by decide +kernel⟩
theorem Dm {f:Addr} {fd:FuncData} {fl:Addr} {sL:Sp} (lv:LamV P w K mg base 6 fl sL) (F:Fun K "can_stand" "can_stand" DZ f fd) (T:Txt K mg c) (c_times_of:CallF P w K mg base "times_of" 4 ["word"] Eh):FnOk P w K mg base CX0 7 f fd ["word","held","times","fits"] (Dh fl sL):=by
  refine F.ok JP (λ vs H Q E h=> ?_) (λ cdv A outer s H vs Q E hr h=> ?_)
  · obtain ⟨z,h,t,a,as,u,ts,fit,rfl,_⟩:=h;rfl
  · obtain ⟨z,h,t,a,as,u,ts,fit,rfl,hz,hh,ha,ht,hf,k⟩:=h;refine ⟨_,(Ac (AB (An BH (pv 0) (B8 T.k_CLOSING) (Aq _)) (Ae (Al (Cg (A6 DN (Ah (AC (K:=K)) rfl (T.own _ (by decide)) boot_len (Aa (pv 2) Ab)) Af (Aq _)) (Du (A6 DN (Ah (AC (K:=K)) rfl (T.own _ (by decide)) boot_len (Aa (Ba (CI (K:=K)) (pv 1) (L4 JT Af) (λ _ _=>rfl)) Ab)) Af (Aq _)))))) Ar)
      (Ac (AB (AT (AW (K:=K) PySem.F.plainAttrs_str PySem.F.slot_str_endswith PySem.F.type_str_endswith Ej (pv 0) (Aa (B8 T.k_OPENING) Ab))) (Ae (Al (A6 OP (Ad c_times_of (hr.mono (by decide)) (Aa (pv 0) Ab)) B3 (Aq _)))) Ar)
      (Ae (Al (MX lv (hr.mono (by decide)) (pv 3) (Aa (pv 0) Ab)))))),?_⟩
    walk_at "w";refine A5 (λ h1=> ?_) (λ h1=> ?_)
    · have e:F7 z ts.length u.length fit=(decide (0<ts.length)&&decide (0<u.length)):=if_pos h1;rw [e] at k;walk_at "w";refine Au (SqL.of ht) ?_;walk_at "w";refine A5 (λ h2=> ?_) (λ h2=> ?_)
      · walk_at "w";refine Bu (SqL.of hh) Ht ?_;walk_at "w";refine Au (SqL.of ha) ?_;walk_at "w";rw [List.length_map];have e2:decide ((0:Int)<((u.length:Nat):Int))=(decide (0<ts.length)&&decide (0<u.length)):=by
          rw [decide_eq_true (by omega:0<ts.length),Bool.true_and];exact decide_eq_decide.mpr (by omega)
        rw [e2];exact k H (Same.refl _)
      · have e2:(decide (0<ts.length)&&decide (0<u.length))=false:=by rw [decide_eq_false (by omega),Bool.false_and]
        rw [e2] at k;exact k H (Same.refl _)
    walk_at "w";refine ⟨rfl,?_⟩;walk_at "w";refine ⟨_,_,rfl,rfl,?_⟩;walk_at "w";refine HW (λ h2=> ?_) (λ h2=> ?_)
    · have e:F7 z ts.length u.length fit= !decide (CV z= .non):=(if_neg h1).trans (if_pos h2);rw [e] at k;walk_at "w";refine ⟨z,rfl,hz,λ H1 s1=> ?_⟩;walk_at "w";exact ⟨rfl,k H1 s1⟩
    · have e:F7 z ts.length u.length fit=fit:=(if_neg h1).trans (if_neg (by rw [show Txt.endswith z opS=false from h2];decide));rw [e] at k;walk_at "w";refine M6 ?_;walk_at "w";refine ⟨rfl,?_⟩;walk_at "w";exact ⟨_,rfl,hf h1 h2 _ k⟩
def AtL (H:Hp):List Addr->List (List Str)->Prop
  | [],[]=>True
  | a::as,u::us=>H a=some (.lst (u.map V.str))/\AtL H as us
  | _,_=>False
theorem AtL.len {H:Hp}:∀ {as:List Addr} {us:List (List Str)},AtL H as us->as.length=us.length
  | [],[],_=>rfl
  | _::_,_::_,h=>by rw [List.length_cons,List.length_cons,AtL.len h.2]
theorem AtL.on {H H':Hp}:∀ {as:List Addr} {us:List (List Str)},AtL H as us->(∀ a∈as,∀ o,H a=some o->H' a=some o)->AtL H' as us
  | [],[],_,_=>trivial
  | a::_,_::_,h,k=>⟨k a List.mem_cons_self _ h.1,AtL.on h.2 λ b hb=>k b (List.mem_cons_of_mem _ hb)⟩
structure Stk (H:Hp) (h t:Addr) (as:List Addr) (s:MFew.Sm Str):Prop where
  hh:H h=some (.lst (as.reverse.map V.ref))
  ht:H t=some (.lst (s.times.reverse.map nV))
  hs:AtL H as s.held
  nd:as.Nodup
  nh:h∉as
  nt:t∉as
  ne:h≠t
  tm:∀ n∈s.times,2<=n/\n<=60
  sm:(s.held.map List.length).sum=s.count
  dp:s.held.length=s.times.length+1
  up:s.held.length<=1000
def KG:Sp:=λ vs H Q _=>∃ (z:Str) (h t:Addr) (as:List Addr) (s s':MFew.Sm Str) (fits:Str->Bool) (mx:Nat),vs=[.str z, .ref h, .ref t]/\z.length<=100/\Stk H h t as s/\s.held.length<=900/\s.count<=60/\mx<=100000/\MFew.step clS tms fits mx s z=some s'/\
  ∀ H' as',(∀ b o,b≠h->b≠t->b∉as->H b=some o->H' b=some o)->(∀ a∈as',a∈as\/H a=none)->Stk H' h t as' s'->Q (.int ((s'.count:Int) - (s.count:Int))) H'
theorem GV {xs:List V} {y:V} (h:xs[xs.length - 1]?=some y):atI xs (-1)=some y:=by
  have hp:0<xs.length:=by
    rcases Nat.eq_zero_or_pos xs.length with z | z
    · rw [List.length_eq_zero_iff.mp z] at h;cases h
    · exact z
  unfold atI ixN;simp only [show ¬ ((0:Int)<= -1) by decide,if_false];rw [if_pos (by omega)];simp only [Option.bind_some];rw [show ((-1:Int)+((xs.length:Nat):Int)).toNat=xs.length - 1 by omega];exact h
theorem FO (z:Str):CV z= .non\/∃ n:Nat,CV z=nV n/\2<=n/\n<=60:=by
  unfold CV;split
  · rename_i h
    rw [Bool.and_eq_true] at h;have h:=h.2;unfold C1 at h ⊢;split
    · rename_i n e
      rw [e] at h;refine .inr ⟨n,rfl,?_⟩;have h:(decide ((2:Int)<=(n:Nat))&&decide (((n:Nat):Int)<=60))=true:=h;rw [Bool.and_eq_true,decide_eq_true_iff,decide_eq_true_iff] at h;omega
    · exact .inl rfl
  · exact .inl rfl
theorem N3 {u:List Str} {n:Nat}:(List.replicate n (u.map V.str)).flatten=(MFew.rep u n).map V.str:=by
  rw [<-MFew.rep_flat,List.map_flatten,List.map_replicate]
noncomputable abbrev JV:Stmt:=top 36
theorem sc_taken:FnScope ["word","held","times","inner","many"] ["word","held","times"] (Ai JV):=⟨rfl,rfl,rfl,by decide +kernel,rfl,by decide +kernel,by decide +kernel⟩
theorem Hf {f:Addr} {fd:FuncData} (F:Fun K "taken" "taken" JV f fd) (T:Txt K mg c) (c_times_of:CallF P w K mg base "times_of" 4 ["word"] Eh):FnOk P w K mg base CX0 5 f fd ["word","held","times"] KG:=by
  refine F.ok sc_taken (λ vs H Q E h=> ?_) (λ cdv A outer s H vs Q E hr h=> ?_)
  · obtain ⟨z,h,t,as,s,s',fits,mx,rfl,_⟩:=h;rfl
  · obtain ⟨z,h,t,as,s0,s',fits,mx,rfl,hz,K0,h900,hct,hmx,hst,k⟩:=h;have hu:=hr.units0;refine ⟨_,(Ac (AB (An BH (pv 0) (B8 T.k_CLOSING) (Aq _)) (Ac (Am (i:=3) sc_taken.nd rfl (Or.inl rfl) (MV (K:=K) PySem.F.plainAttrs_list PySem.F.slot_list_pop PySem.F.type_list_pop Oe (pv 1)))
      (Ac (Am (i:=4) sc_taken.nd rfl (Or.inl rfl) (MV (K:=K) PySem.F.plainAttrs_list PySem.F.slot_list_pop PySem.F.type_list_pop Oe (pv 2)))
      (Ac (Az (AW (K:=K) PySem.F.plainAttrs_list PySem.F.slot_list_extend PySem.F.type_list_extend IY (Ba (CI (K:=K)) (pv 1) (L4 JT Af) (λ _ _=>rfl)) (Aa (Ak JD (pv 3) (pv 4)) Ab)))
      (Ae (Al (Ak EW (Ah (AC (K:=K)) rfl (T.own _ (by decide)) boot_len (Aa (pv 3) Ab)) (Ak E8 (pv 4) Af))))))) Ar)
      (Ac (AB (AT (AW (K:=K) PySem.F.plainAttrs_str PySem.F.slot_str_endswith PySem.F.type_str_endswith Ej (pv 0) (Aa (B8 T.k_OPENING) Ab))) (Ac (Az (AW (K:=K) PySem.F.plainAttrs_list PySem.F.slot_list_append PySem.F.type_list_append AO (pv 1) (Aa (Aw Ab) Ab)))
      (Ac (Az (AW (K:=K) PySem.F.plainAttrs_list PySem.F.slot_list_append PySem.F.type_list_append AO (pv 2) (Aa (Ad c_times_of hr (Aa (pv 0) Ab)) Ab)))
      (Ae (Al Af)))) Ar)
      (Ac (Az (AW (K:=K) PySem.F.plainAttrs_list PySem.F.slot_list_append PySem.F.type_list_append AO (Ba (CI (K:=K)) (pv 1) (L4 JT Af) (λ _ _=>rfl)) (Aa (pv 0) Ab)))
      (Ae (Al Af))))),?_⟩
    obtain ⟨held,times,count⟩:=s0;have hK:=K0.hs.len;walk_at "w";refine A5 (λ h1=> ?_) (λ h1=> ?_)
    ·
      unfold MFew.step at hst;rw [if_pos h1] at hst;split at hst;rotate_left
      · cases hst
      rename_i u v st t1 ts e1 e2
      simp only at e1 e2;subst e1 e2;split at hst;rotate_left
      · cases hst
      rename_i hc
      cases hst;obtain ⟨hne,hcm⟩:=hc;simp only at hcm
      match as,hK,K0 with
      | a::b::as,hK,K0=>
        obtain ⟨ha,hb,hr'⟩:=K0.hs;have htm:=K0.tm t1 List.mem_cons_self;have nd:=K0.nd;have nab:a≠b:=λ z=>by rw [z] at nd;simp at nd
        have nha:h≠a:=λ z=>K0.nh (by rw [z];simp);have nhb:h≠b:=λ z=>K0.nh (by rw [z];simp);have nta:t≠a:=λ z=>K0.nt (by rw [z];simp);have ntb:t≠b:=λ z=>K0.nt (by rw [z];simp);have mul1:u.length*1<=u.length*(t1 - 1):=Nat.mul_le_mul_left _ (by omega);have sm:=K0.sm;simp only [List.map_cons,List.sum_cons] at sm;have ct:count<=60:=hct;walk_at "w";refine tyL (SqL.of K0.hh) ?_;walk_at "w";have eL:((a::b::as).reverse.map V.ref)=(b::as).reverse.map V.ref++[.ref a]:=by rw [List.reverse_cons,List.map_append];rfl
        refine ⟨h,_, .ref a,rfl,rfl,K0.hh,by rw [eL];simp,?_⟩;rw [eL,List.dropLast_concat];have f1:∀ x o,x≠h->H x=some o->upd H h (HO.lst ((b::as).reverse.map V.ref)) x=some o:=λ x o hx e=>by rw [As hx];exact e
        have g1:upd H h (HO.lst ((b::as).reverse.map V.ref)) h=_:=Ag;have n1:∀ x,x≠h->H x=none->upd H h (HO.lst ((b::as).reverse.map V.ref)) x=none:=λ x hx e=>by rw [As hx];exact e
        have m1:∀ x,upd H h (HO.lst ((b::as).reverse.map V.ref)) x=none->H x=none:=λ x e=>by
          by_cases hx:x=h
          · rw [hx,Ag] at e;cases e
          · rw [As hx] at e;exact e
        generalize upd H h (HO.lst ((b::as).reverse.map V.ref))=H1 at f1 g1 n1 m1 ⊢;walk_at "w";have eT:((t1::ts).reverse.map nV)=ts.reverse.map nV++[nV t1]:=by rw [List.reverse_cons,List.map_append];rfl
        have ht1:=f1 t _ (Ne.symm K0.ne) K0.ht;refine tyL (SqL.of ht1) ?_;walk_at "w";refine ⟨t,_,nV t1,rfl,rfl,ht1,by show ((t1::ts).reverse.map nV)[_]?=_;rw [eT];simp,?_⟩;have eT2:HO.lst ((({ held:=u::v::st,times:=t1::ts,count:=count }:MFew.Sm Str).times.reverse.map nV).dropLast)=HO.lst (ts.reverse.map nV):=by
          show HO.lst (((t1::ts).reverse.map nV).dropLast)=_;rw [eT,List.dropLast_concat]
        rw [eT2];have f2:∀ x o,x≠t->H1 x=some o->upd H1 t (HO.lst (ts.reverse.map nV)) x=some o:=λ x o hx e=>by rw [As hx];exact e
        have g2:upd H1 t (HO.lst (ts.reverse.map nV)) t=_:=Ag;have m2:∀ x,upd H1 t (HO.lst (ts.reverse.map nV)) x=none->H1 x=none:=λ x e=>by
          by_cases hx:x=t
          · rw [hx,Ag] at e;cases e
          · rw [As hx] at e;exact e
        generalize upd H1 t (HO.lst (ts.reverse.map nV))=H2 at f2 g2 m2 ⊢;walk_at "w";have gh2:=f2 h _ K0.ne g1;have eL2:((b::as).reverse.map V.ref)=as.reverse.map V.ref++[.ref b]:=by rw [List.reverse_cons,List.map_append];rfl
        refine Bu (SqL.of gh2) (by rw [eL2];exact Ht) ?_;walk_at "w";have gb2:=f2 b _ (Ne.symm ntb) (f1 b _ (Ne.symm nhb) hb);have ga2:=f2 a _ (Ne.symm nta) (f1 a _ (Ne.symm nha) ha);refine tyL (SqL.of gb2) ?_;walk_at "w";refine JO ga2 (by omega) (by omega) (by rw [List.length_map];omega) λ q hq=> ?_;rw [show ((t1:Nat):Int).toNat=t1 by omega,N3];have s3:=Aj (o:=HO.lst ((MFew.rep u t1).map V.str)) hq;have g3:upd H2 q (HO.lst ((MFew.rep u t1).map V.str)) q=_:=Ag;generalize upd H2 q (HO.lst ((MFew.rep u t1).map V.str))=H3 at s3 g3 ⊢;walk_at "w";have mul2:u.length*t1=u.length*(t1 - 1)+u.length:=by
          obtain ⟨n,rfl⟩:∃ n,t1=n+1:=⟨t1 - 1,by omega⟩;rw [Nat.add_sub_cancel,Nat.mul_succ]
        refine NO (s3 _ _ gb2) g3 (by rw [List.length_map,List.length_map,MFew.rep_len];omega) ?_;rw [<-List.map_append];have f4:∀ x o,x≠b->H3 x=some o->upd H3 b (HO.lst ((v++MFew.rep u t1).map V.str)) x=some o:=λ x o hx e=>by rw [As hx];exact e
        have g4:upd H3 b (HO.lst ((v++MFew.rep u t1).map V.str)) b=_:=Ag;generalize upd H3 b (HO.lst ((v++MFew.rep u t1).map V.str))=H4 at f4 g4 ⊢;walk_at "w";refine Au (SqL.of (f4 a _ nab (s3 _ _ ga2))) ?_;walk_at "w";rw [List.length_map];have hmul:((u.length:Nat):Int)*(((t1:Nat):Int) - 1)=((u.length*(t1 - 1):Nat):Int):=by
          rw [Int.natCast_mul,Int.natCast_sub (by omega)];rfl
        refine AR (.inl ⟨by omega,by omega⟩) ?_;rw [hmul];have z0:=k H4 (b::as) (λ x o hx1 hx2 hx3 e=> ?_) (λ x hx=> .inl (List.mem_cons_of_mem _ hx)) ⟨?_,?_,?_,?_,λ hx=>K0.nh (List.mem_cons_of_mem _ hx),λ hx=>K0.nt (List.mem_cons_of_mem _ hx),K0.ne,λ n hn=>K0.tm n (List.mem_cons_of_mem _ hn),?_,?_,?_⟩
        · have e9:((count+u.length*(t1 - 1):Nat):Int) - ((count:Nat):Int)=((u.length*(t1 - 1):Nat):Int):=by omega
          rw [<-e9];exact z0
        · have hxb:x≠b:=λ z=>hx3 (by rw [z];simp);exact f4 x _ hxb (s3 _ _ (f2 x _ hx2 (f1 x _ hx1 e)))
        · exact f4 h _ nhb (s3 _ _ gh2)
        · exact f4 t _ ntb (s3 _ _ g2)
        · refine ⟨g4,hr'.on λ x hx o e=> ?_⟩;have hxb:x≠b:=λ z=>by rw [z] at hx;simp [hx] at nd
          have hxh:x≠h:=λ z=>K0.nh (by rw [<-z];simp [hx]);have hxt:x≠t:=λ z=>K0.nt (by rw [<-z];simp [hx]);exact f4 x _ hxb (s3 _ _ (f2 x _ hxt (f1 x _ hxh e)))
        · exact (List.nodup_cons.mp nd).2
        · simp only [List.map_cons,List.sum_cons,List.length_append,MFew.rep_len];omega
        · have:=K0.dp;simp only [List.length_cons] at this ⊢;omega
        · have:=K0.up;simp only [List.length_cons] at this ⊢;omega
    walk_at "w";refine ⟨rfl,?_⟩;walk_at "w";refine ⟨_,_,rfl,rfl,?_⟩;walk_at "w";unfold MFew.step at hst;rw [if_neg h1] at hst;refine HW (λ h2=> ?_) (λ h2=> ?_)
    ·
      have h2:Txt.endswith z opS=true:=h2;unfold tms at hst;rw [if_pos h2] at hst;rcases FO z with e | ⟨n,e,n2,n60⟩
      · rw [e] at hst;cases hst
      rw [e] at hst;simp only [Int.toNat_natCast] at hst;split at hst;rotate_left
      · cases hst
      rename_i hc
      cases hst;walk_at "w";refine tyL (SqL.of K0.hh) ?_;walk_at "w";intro p hp;have s1:=Aj (o:=HO.lst []) hp;have g1:upd H p (HO.lst []) p=some (.lst (([]:List Str).map V.str)):=Ag;generalize upd H p (HO.lst [])=H1 at s1 g1 ⊢;have la:as.length<=900:=by rw [hK];exact h900
      walk_at "w";refine BC (s1 _ _ K0.hh) (by rw [List.length_map,List.length_reverse];omega) ?_;have eL:as.reverse.map V.ref++[V.ref p]=(p::as).reverse.map V.ref:=by rw [List.reverse_cons,List.map_append];rfl
      rw [eL];have npo:∀ x o,H x=some o->x≠p:=λ x o e z=>by rw [z,hp] at e;cases e
      have f2:∀ x o,x≠h->H1 x=some o->upd H1 h (HO.lst ((p::as).reverse.map V.ref)) x=some o:=λ x o hx e=>by rw [As hx];exact e
      have g2:upd H1 h (HO.lst ((p::as).reverse.map V.ref)) h=_:=Ag;generalize upd H1 h (HO.lst ((p::as).reverse.map V.ref))=H2 at f2 g2 ⊢;walk_at "w";have ht2:=f2 t _ (Ne.symm K0.ne) (s1 _ _ K0.ht);refine tyL (SqL.of ht2) ?_;walk_at "w";refine ⟨z,rfl,hz,λ H3 s3=> ?_⟩;rw [e];walk_at "w";have dp:=K0.dp;simp only at dp hK;refine BC (s3 _ _ ht2) (by rw [List.length_map,List.length_reverse];show times.length<_;omega) ?_;have eT:(({ held:=held,times:=times,count:=count }:MFew.Sm Str).times.reverse.map nV)++[nV n]=(n::times).reverse.map nV:=by rw [List.reverse_cons,List.map_append];rfl
      rw [eT];have f4:∀ x o,x≠t->H3 x=some o->upd H3 t (HO.lst ((n::times).reverse.map nV)) x=some o:=λ x o hx e=>by rw [As hx];exact e
      have g4:upd H3 t (HO.lst ((n::times).reverse.map nV)) t=_:=Ag;generalize upd H3 t (HO.lst ((n::times).reverse.map nV))=H4 at f4 g4 ⊢;walk_at "w";have hph:p≠h:=Ne.symm (npo h _ K0.hh);have hpt:p≠t:=Ne.symm (npo t _ K0.ht);have hpa:p∉as:=λ z=>by
        have:∀ {as:List Addr} {us:List (List Str)},AtL H as us->p∈as->False:=λ {as us}=>by
          induction as generalizing us with
          | nil=>intro _ h;cases h
          | cons a as ih=>
            intro q h
            match us,q with
            | u::us,q=>
              rcases List.mem_cons.mp h with z | z
              · have:=q.1;rw [<-z,hp] at this;cases this
              · exact ih q.2 z
        exact this K0.hs z
      have z0:=k H4 (p::as) (λ x o hx1 hx2 hx3 e=>f4 x _ hx2 (s3 _ _ (f2 x _ hx1 (s1 _ _ e)))) (λ x hx=> ?_) ⟨?_,?_,?_,?_,?_,?_,K0.ne,?_,?_,?_,?_⟩
      · have e9:((count:Nat):Int) - ((count:Nat):Int)=0:=by omega
        simp only [e9] at z0;exact z0
      · rcases List.mem_cons.mp hx with z | z
        · rw [z];exact .inr hp
        · exact .inl z
      · exact f4 h _ K0.ne (s3 _ _ g2)
      · exact g4
      · refine ⟨f4 p _ hpt (s3 _ _ (f2 p _ hph g1)),K0.hs.on λ x hx o e=> ?_⟩;have hxh:x≠h:=λ z=>K0.nh (by rw [<-z];exact hx);have hxt:x≠t:=λ z=>K0.nt (by rw [<-z];exact hx);exact f4 x _ hxt (s3 _ _ (f2 x _ hxh (s1 _ _ e)))
      · exact List.nodup_cons.mpr ⟨hpa,K0.nd⟩
      · intro hx;rcases List.mem_cons.mp hx with z | z
        · exact hph z.symm
        · exact K0.nh z
      · intro hx;rcases List.mem_cons.mp hx with z | z
        · exact hpt z.symm
        · exact K0.nt z
      · intro m hm;rcases List.mem_cons.mp hm with z | z
        · rw [z];exact ⟨n2,n60⟩
        · exact K0.tm m z
      · have:=K0.sm;simp only [List.map_cons,List.sum_cons,List.length_nil] at this ⊢;omega
      · simp only [List.length_cons];omega
      · simp only [List.length_cons] at h900 ⊢;omega
    ·
      have h2:Txt.endswith z opS=false:=h2;have e:tms z=none:=if_neg (by rw [h2];decide);rw [e] at hst;simp only at hst;split at hst;rotate_left
      · cases hst
      rename_i u st
      split at hst;rotate_left
      · cases hst
      rename_i hc
      cases hst
      match as,hK,K0 with
      | a::as,hK,K0=>
        obtain ⟨ha,hr'⟩:=K0.hs;have nd:=K0.nd;have nha:h≠a:=λ z=>K0.nh (by rw [z];simp);have nta:t≠a:=λ z=>K0.nt (by rw [z];simp);have sm:=K0.sm;have ct:count<=60:=hct;simp only [List.map_cons,List.sum_cons] at sm;walk_at "w";have eL:((a::as).reverse.map V.ref)=as.reverse.map V.ref++[.ref a]:=by rw [List.reverse_cons,List.map_append];rfl
        refine Bu (SqL.of K0.hh) (by rw [eL];exact Ht) ?_;walk_at "w";refine tyL (SqL.of ha) ?_;walk_at "w";refine BC ha (by rw [List.length_map];omega) ?_;have e2:u.map V.str++[V.str z]=(u++[z]).map V.str:=by rw [List.map_append];rfl
        rw [e2];have f1:∀ x o,x≠a->H x=some o->upd H a (HO.lst ((u++[z]).map V.str)) x=some o:=λ x o hx e=>by rw [As hx];exact e
        have g1:upd H a (HO.lst ((u++[z]).map V.str)) a=_:=Ag;generalize upd H a (HO.lst ((u++[z]).map V.str))=H1 at f1 g1 ⊢;walk_at "w";have z0:=k H1 (a::as) (λ x o hx1 hx2 hx3 e=>f1 x _ (λ z=>hx3 (by rw [z];simp)) e) (λ x hx=> .inl hx) ⟨f1 h _ nha K0.hh,f1 t _ nta K0.ht,⟨g1,hr'.on λ x hx o e=>f1 x _ (λ z=>by rw [z] at hx;simp [hx] at nd) e⟩,nd,K0.nh,K0.nt,K0.ne,K0.tm,?_,K0.dp,K0.up⟩
        · have e9:((count+1:Nat):Int) - ((count:Nat):Int)=1:=by omega
          simp only [e9] at z0;exact z0
        · simp only [List.map_cons,List.sum_cons,List.length_append,List.length_singleton];omega
theorem QH {fits:Str->Bool} {mx:Nat} {s0 s e:MFew.Sm Str} {ws:List Str} {i:Nat} (h:MFew.run clS tms fits mx s0 ws=some e) (hi:i<ws.length) (hs:MFew.run clS tms fits mx s0 (ws.take i)=some s):
    ∃ s',MFew.step clS tms fits mx s (ws.getD i "")=some s'/\MFew.run clS tms fits mx s0 (ws.take (i+1))=some s':=by
  have eg:ws.getD i ""=ws[i]:=by rw [List.getD_eq_getElem?_getD,List.getElem?_eq_getElem hi];rfl
  rw [eg];have e1:ws=ws.take i++ws[i]::ws.drop (i+1):=by rw [List.getElem_cons_drop,List.take_append_drop]
  have e2:ws.take (i+1)=ws.take i++[ws[i]]:=by rw [List.take_succ,List.getElem?_eq_getElem hi];rfl
  conv at h=>lhs;rw [e1]
  rw [MFew.run_app,hs] at h;rw [e2,MFew.run_app,hs];simp only [MFew.run] at h ⊢;cases hq:MFew.step clS tms fits mx s ws[i] with
  | none=>rw [hq] at h;cases h
  | some s'=>exact ⟨s',rfl,rfl⟩
theorem NG {fits:Str->Bool} {mx:Nat} {u:List Str} {st:List (List Str)} {ts:List Nat} {c:Nat} {z:Str} {s':MFew.Sm Str} (h:MFew.step clS tms fits mx ⟨u::st,ts,c⟩ z=some s'):F7 z ts.length u.length true=true/\(z≠clS->Txt.endswith z opS=false->fits z=true)/\s'.count<=mx:=by
  unfold MFew.step at h;unfold F7;by_cases h1:z=clS
  · rw [if_pos h1] at h ⊢;refine ⟨?_,λ q=>absurd h1 q,?_⟩
    · split at h
      · rename_i e1 e2
        simp only at e1 e2;subst e2;split at h
        · rename_i hc
          cases e1;rw [List.length_cons,decide_eq_true (by omega),decide_eq_true (List.length_pos_iff.mpr hc.1)];rfl
        · cases h
      · cases h
    · split at h
      · split at h
        · rename_i hc
          cases h;exact hc.2
        · cases h
      · cases h
  · rw [if_neg h1] at h ⊢;by_cases h2:Txt.endswith z opS=true
    · rw [if_pos h2];unfold tms at h;rw [if_pos h2] at h;refine ⟨?_,λ _ q=>(by rw [h2] at q;cases q),?_⟩
      · rcases FO z with e | ⟨n,e,_⟩
        · rw [e] at h;cases h
        · rw [e];rfl
      · split at h
        · split at h
          · rename_i hc
            cases h;exact hc
          · cases h
        · cases h
        · split at h
          · split at h
            · rename_i hc
              cases h;exact hc.2
            · cases h
          · cases h
    · rw [if_neg h2];have e:tms z=none:=if_neg h2;rw [e] at h;simp only at h;split at h
      · rename_i hc
        cases h;exact ⟨rfl,λ _ _=>hc.1,hc.2⟩
      · cases h
theorem M7 {fits:Str->Bool} {mx:Nat} {s s':MFew.Sm Str} {z:Str} (h:MFew.step clS tms fits mx s z=some s'):s'.held.length<=s.held.length+1:=by
  unfold MFew.step at h;split at h
  · split at h
    · rename_i e1 e2
      split at h
      · cases h;rw [e1];simp only [List.length_cons];omega
      · cases h
    · cases h
  · split at h
    · split at h
      · cases h;simp only [List.length_cons];omega
      · cases h
    · cases h
    · split at h
      · rename_i e1
        split at h
        · cases h;rw [e1];simp only [List.length_cons];omega
        · cases h
      · cases h
theorem Stk.on {H H':Hp} {h t:Addr} {as:List Addr} {s:MFew.Sm Str} (K:Stk H h t as s) (k:Same H H'):Stk H' h t as s:=⟨k _ _ K.hh,k _ _ K.ht,K.hs.on λ a _ o e=>k a o e,K.nd,K.nh,K.nt,K.ne,K.tm,K.sm,K.dp,K.up⟩
def Qs (K:PySem.W.Frag) (sL:Sp) (H:Hp) (Q:VK) (a:Addr) (ws out:List Str) (mx:Nat):Prop:=∃ (cn:Nat) (fits:Str->Bool),SqL K H a (ws.map V.str)/\ws≠[]/\ws.length<=800/\(∀ z∈ws,z.length<=100)/\mx<=60/\MFew.run clS tms fits mx ⟨[[]],[],0⟩ ws=some ⟨[out],[],cn⟩/\
  (∀ z∈ws,z≠clS->Txt.endswith z opS=false->fits z=true->∀ H' (Q':VK),Same H H'->(∀ H'',Same H' H''->Q' (.bl true) H'')->sL [.str z] H' Q' E0)/\∀ H' p,Same H H'->H p=none->H' p=some (.lst (out.map V.str))->Q (.ref p) H'
def EC (K:PySem.W.Frag) (fl:Addr) (sL:Sp):Sp:=λ vs H Q _=>∃ (a:Addr) (ws out:List Str) (mx:Nat),vs=[.ref a,nV mx, .ref fl]/\Qs K sL H Q a ws out mx
noncomputable abbrev Hz:Stmt:=top 37
theorem sc_spread:FnScope ["words","most","fits","row","held","times","count","place","word"] ["words","most","fits"] (Ai Hz):=⟨rfl,rfl,rfl,by decide +kernel,rfl,by decide +kernel,by decide +kernel⟩
theorem IV {f:Addr} {fd:FuncData} {fl:Addr} {sL:Sp} (lv:LamV P w K mg base 6 fl sL) (F:Fun K "spread" "spread" Hz f fd) (T:Txt K mg c) (c_can_stand:CallF P w K mg base "can_stand" 7 ["word","held","times","fits"] (Dh fl sL)) (c_taken:CallF P w K mg base "taken" 5 ["word","held","times"] KG):FnOk P w K mg base CX0 8 f fd ["words","most","fits"] (EC K fl sL):=by
  refine F.ok sc_spread (λ vs H Q E h=> ?_) (λ cdv A outer s H vs Q E hr h=> ?_)
  · obtain ⟨a,ws,out,mx,rfl,_⟩:=h;rfl
  · obtain ⟨a,ws,out,mx,rfl,cn,fits,sa,hne,hl,hz,hmx,hrun,hf,k⟩:=h;refine ⟨_,(Ac (Am (i:=3) sc_spread.nd rfl (Or.inl rfl) (Av (Er (K:=K)) rfl (T.own _ (by decide)) AF (Aa (pv 0) Ab)))
      (Ac (Am (i:=4) sc_spread.nd rfl (Or.inl rfl) (Aw (Aa (Aw Ab) Ab)))
      (Ac (Am (i:=5) sc_spread.nd rfl (Or.inl rfl) (Aw Ab))
      (Ac (Am (i:=6) sc_spread.nd rfl (Or.inl rfl) Af)
      (Ac (B4 PassesOwn.never rfl (MY (K:=K) rfl (T.own _ (by decide)) (Aa (pv 3) Ab)) (Jj (K:=K) rfl (AY (AK (i:=7) sc_spread.nd rfl (Or.inl rfl)) (AY (AK (i:=8) sc_spread.nd rfl (Or.inl rfl)) Ft))) (Ac (AB (BL (AT (Ad c_can_stand hr (Aa (pv 8) (Aa (pv 4) (Aa (pv 5) (Aa (pv 2) Ab))))))) (Ae Bg) Ar)
      (Ac (Qx (i:=6) sc_spread.nd rfl (Or.inl rfl) (Ad c_taken (hr.mono (by decide)) (Aa (pv 8) (Aa (pv 4) (Aa (pv 5) Ab)))) OM)
      (Ae (AB (An DN (pv 6) (pv 1) (Aq _)) (Ae Bg) Ar)))))
      (Ac (AB (PW.pt (EH (An DN (Ah (AC (K:=K)) rfl (T.own _ (by decide)) boot_len (Aa (pv 5) Ab)) Af (Aq _)) (C5 (An BH (Ah (AC (K:=K)) rfl (T.own _ (by decide)) boot_len (Aa (pv 3) Ab)) Af (Aq _))))) (Ae Bg) Ar)
      (Ae (Al (Ba (CI (K:=K)) (pv 4) Af (λ _ _=>rfl)))))))))),?_⟩
    walk_at "w";refine IH sa λ r hr0=> ?_;have s1:=Aj (o:=HO.lst (ws.map V.str)) hr0;have g1:upd H r (HO.lst (ws.map V.str)) r=_:=Ag;generalize upd H r (HO.lst (ws.map V.str))=H1 at s1 g1 ⊢;walk_at "w";intro p0 hp0;have s2:=Aj (o:=HO.lst []) hp0;have g2:upd H1 p0 (HO.lst []) p0=some (.lst (([]:List Str).map V.str)):=Ag;generalize upd H1 p0 (HO.lst [])=H2 at s2 g2 ⊢;walk_at "w";intro h0 hh0;have s3:=Aj (o:=HO.lst [V.ref p0]) hh0;have g3:upd H2 h0 (HO.lst [V.ref p0]) h0=some (.lst ([p0].reverse.map V.ref)):=Ag;have n30:h0≠p0:=λ z=>by rw [z,g2] at hh0;cases hh0
    generalize upd H2 h0 (HO.lst [V.ref p0])=H3 at s3 g3 ⊢;walk_at "w";intro t0 ht0;have s4:=Aj (o:=HO.lst []) ht0;have g4:upd H3 t0 (HO.lst []) t0=some (.lst (([]:List Nat).reverse.map nV)):=Ag;have n40:t0≠p0:=λ z=>by rw [z,s3 _ _ g2] at ht0;cases ht0
    have n43:h0≠t0:=λ z=>by rw [<-z,g3] at ht0;cases ht0
    generalize upd H3 t0 (HO.lst [])=H4 at s4 g4 ⊢;have s14:=s2.trans (s3.trans s4);have fh:H1 h0=none:=s2.free hh0;have ft:H1 t0=none:=s2.free (s3.free ht0);have K0:Stk H4 h0 t0 [p0] ⟨[[]],[],0⟩:=⟨s4 _ _ g3,g4,⟨s4 _ _ (s3 _ _ g2),trivial⟩,List.nodup_cons.mpr ⟨by simp,List.nodup_nil⟩,by simpa using n30,by simpa using n40,n43,λ n hn=>(nomatch hn),rfl,rfl,by decide⟩;walk_at "w";refine ⟨false,r,rfl,⟨_,SqL.of (s14 _ _ g1)⟩,Cq (H0:=H1) (NN (tp:=false) (SqL.of g1)) (λ i σ H5=>∃ x y as s,σ=[some (.ref a),some (nV mx),some (.ref fl),some (.ref r),some (.ref h0),some (.ref t0),some (nV s.count),x,y]/\Same H1 H5/\Stk H5 h0 t0 as s/\s.count<=60/\s.held.length<=1+i/\MFew.run clS tms fits mx ⟨[[]],[],0⟩ (ws.take i)=some s/\∀ b∈as,H1 b=none)
      ⟨_,_,[p0],⟨[[]],[],0⟩,rfl,s14,K0,by decide,by decide,rfl,by simpa using hp0⟩ (λ i σ H5 ⟨_,_,_,_,_,s,_⟩=>s) ?_ ?_⟩
    · rintro i σ H5 H6 hi ⟨x,y,as,s0,rfl,s5,K5,c5,l5,r5,n5⟩ s6;rw [List.length_map] at hi;obtain ⟨s',hst,r6⟩:=QH hrun hi r5;have eg:(ws.map V.str).getD i .non= .str (ws.getD i ""):=by
        rw [List.getD_eq_getElem?_getD,List.getElem?_map,List.getD_eq_getElem?_getD,List.getElem?_eq_getElem hi];rfl
      rw [eg];have hm:ws.getD i ""∈ws:=by
        rw [List.getD_eq_getElem?_getD,List.getElem?_eq_getElem hi];exact List.getElem_mem hi
      generalize ws.getD i ""=z at hst hm ⊢;obtain ⟨held,times,count⟩:=s0;have K6:=K5.on s6
      match as,held,K5.hs,K5.dp with
      | [],[],_,dp=>exact absurd (show 0=times.length+1 from dp) (by omega)
      | a0::as,u::st,_,_=>
        obtain ⟨b1,b2,b3⟩:=NG hst;have hz6:=hz z hm;walk_at "w";have eL:((a0::as).reverse.map V.ref)=as.reverse.map V.ref++[.ref a0]:=by rw [List.reverse_cons,List.map_append];rfl
        refine ⟨z,h0,t0,a0,as.reverse.map V.ref,u,times.reverse.map nV,true,rfl,hz6,by rw [<-eL];exact K6.hh,K6.hs.1,K6.ht,λ q1 q2 Q' q=>hf z hm q1 q2 (b2 q1 q2) H6 Q' (s1.trans (s5.trans s6)) q,λ H7 s7=> ?_⟩;rw [List.length_map,List.length_reverse,b1];have K7:=K6.on s7;walk_at "w";refine Ri rfl ?_;walk_at "w";refine ⟨z,h0,t0,a0::as,_,s',fits,mx,rfl,hz6,K7,by simp only [List.length_cons] at l5 ⊢;omega,c5,by omega,hst,λ H8 as' fr mem K8=> ?_⟩;walk_at "w";have e9:((count:Nat):Int)+(((s'.count:Nat):Int) - ((count:Nat):Int))=((s'.count:Nat):Int):=by omega
        simp only [e9];refine A5 (λ q=>absurd q (by omega)) (λ _=> ?_);walk_at "w";refine ⟨_,_,as',s',rfl,λ b o e=> ?_,K8,Nat.le_trans b3 hmx,?_,r6,λ b hb=> ?_⟩
        · exact fr b o (λ q=>by rw [q,fh] at e;cases e) (λ q=>by rw [q,ft] at e;cases e) (λ q=>by rw [n5 b q] at e;cases e) (s7 _ _ (s6 _ _ (s5 _ _ e)))
        · have:=M7 hst;simp only [List.length_cons] at this l5 ⊢;omega
        · rcases mem b hb with q | q
          · exact n5 b q
          · exact s5.free (s6.free (s7.free q))
    · rintro σ H5 ⟨x,y,as,s0,rfl,s5,K5,c5,l5,r5,n5⟩;rw [List.length_map,List.take_length,hrun] at r5;cases r5
      match as,K5.hs with
      | [p],hp=>
        walk_at "w";refine Au (SqL.of K5.ht) ?_;walk_at "w";refine A5 (λ q=>absurd q (by simp)) (λ _=> ?_);walk_at "w";refine Au (SqL.of (s5 _ _ g1)) ?_;walk_at "w";rw [List.length_map];refine A5 (λ q=>absurd (List.length_eq_zero_iff.mp (by omega)) hne) (λ _=> ?_);walk_at "w";refine Bu (SqL.of K5.hh) (v:= .ref p) rfl ?_;exact k H5 p (s1.trans s5) (s1.free (n5 p (by simp))) hp.1
noncomputable def opn (t:Nat):Str:=(Str.ofString (toString ((t:Nat):Int)))++opS
def LookT (H:Hp) (kvs:List (List Key × V)) (T:Nat->Nat->List Str) (a b:Nat):Prop:=∃ p,CF kvs [.inl (a:Nat), .inl (b:Nat)]=some (.ref p)/\H p=some (.lst ((T a b).map V.str))/\(T a b).length<=1000
theorem LookT.on {H H':Hp} {kvs:List (List Key × V)} {T:Nat->Nat->List Str} {a b:Nat} (h:LookT H kvs T a b) (s:Same H H'):LookT H' kvs T a b:=let ⟨p,e,g,l⟩:=h;⟨p,e,s _ _ g,l⟩
def BestV (H0 H:Hp) (b:Option (List Str)) (v:V):Prop:=(b=none/\v= .non)\/∃ R p,b=some R/\v= .ref p/\H p=some (.lst (R.map V.str))/\H0 p=none/\R.length<=2002
theorem BestV.on {H0 H H':Hp} {b:Option (List Str)} {v:V} (h:BestV H0 H b v) (s:Same H H'):BestV H0 H' b v:=by
  rcases h with h | ⟨R,p,h1,h2,h3,h4,h5⟩
  · exact .inl h
  · exact .inr ⟨R,p,h1,h2,s _ _ h3,h4,h5⟩
theorem FR {xs:List Str} {i j:Nat} (h:i<=j):Fn (xs.map V.str) (some (i:Nat)) (some (j:Nat))=(MFew.sl xs i j).map V.str:=by
  rw [Oq (by omega) (by omega)];unfold MFew.sl;rw [Int.toNat_natCast,Int.toNat_natCast,List.map_take,List.map_drop,List.drop_take]
theorem Nu {K:PySem.W.Frag} {H:Hp} {Q:VK} {l p:Addr} {as bs:List Str} (c:SqL K H l (as.map V.str)) (d:SqL K H p (bs.map V.str)) (h:Q (.bl (!decide (as=bs))) H):JH K true (.ref l) (.ref p) H Q:=
  ⟨l,p,_,_,rfl,rfl,c,d,by simp [Bf],by simp [Bf],by rw [F9];exact h⟩
def Gu (K:PySem.W.Frag):Sp:=λ vs H Q _=>∃ (x d:Addr) (xs:List Str) (i j:Nat) (kvs:List (List Key × V)) (T:Nat->Nat->List Str),vs=[.ref x,nV i,nV j, .ref d]/\SqL K H x (xs.map V.str)/\i<j/\j<=xs.length/\xs.length<=60/\H d=some (.dT kvs)/\
  (∀ a b,i<=a->a<b->b<=j->b - a<j - i->LookT H kvs T a b)/\∀ H' v,Same H H'->BestV H H' (MFew.asGroup opn clS T xs i j) v->Q v H'
noncomputable abbrev Fd:Stmt:=top 38
theorem sc_as_group:FnScope ["items","first","behind","told","length","best","part","times","words"] ["items","first","behind","told"] (Ai Fd):=⟨rfl,rfl,rfl,by decide +kernel,rfl,by decide +kernel,by decide +kernel⟩
theorem Kb {f:Addr} {fd:FuncData} (F:Fun K "as_group" "as_group" Fd f fd) (T:Txt K mg c) (c_number_text:CallF P w K mg base "number_text" 1 ["number"] Bp):FnOk P w K mg base CX0 2 f fd ["items","first","behind","told"] (Gu K):=by
  refine F.ok sc_as_group (λ vs H Q E h=> ?_) (λ cdv A outer s H vs Q E hr h=> ?_)
  · obtain ⟨x,d,xs,i,j,kvs,T,rfl,_⟩:=h;rfl
  · obtain ⟨x,d,xs,i,j,kvs,Tb,rfl,sx,hij,hj,h60,hd,ht,k⟩:=h;have hu:=hr.units0;have hu1:=hr.units1;refine ⟨_,(Ac (Am (i:=4) sc_as_group.nd rfl (Or.inl rfl) (Ak E8 (pv 2) (pv 1)))
      (Ac (Am (i:=5) sc_as_group.nd rfl (Or.inl rfl) B3)
      (Ac (B4 PassesOwn.never rfl (EB rfl (T.own _ (by decide)) (Aa Af (Aa (Ak Ay (Ak Ci (pv 4) Af) Af) Ab))) (AK (i:=6) sc_as_group.nd rfl (Or.inl rfl)) (Ac (Am (i:=7) sc_as_group.nd rfl (Or.inl rfl) (Ak Ci (pv 4) (pv 6)))
      (Ac (AB (PW.pt (EH (An IL (Ak Be (pv 4) (pv 6)) Af (Aq _)) (C5 (An DN (pv 7) (DH T.k_MOST_TIMES) (Aq _))))) (Ae Gk) Ar)
      (Ac (AB (An (PN hu (K:=K)) (A0 (C7 (K:=K)) (pv 0) (AV (pv 1)) (AV (Ak E8 (pv 2) (pv 6)))) (A0 (C7 (K:=K)) (pv 0) (AV (Ak Ay (pv 1) (pv 6))) (AV (pv 2))) (Aq _)) (Ae Gk) Ar)
      (Ac (Am (i:=8) sc_as_group.nd rfl (Or.inl rfl) (GO hu1 (pv 3) (Cj (Aa (pv 1) (Aa (Ak Ay (pv 1) (pv 6)) Ab))) (λ _ _=>rfl)))
      (Ae (AB (PW.pt (EH (An Lf (pv 5) B3 (Aq _)) (C5 (An Kx (Ak Ay (Ah (AC (K:=K)) rfl (T.own _ (by decide)) boot_len (Aa (pv 8) Ab)) Af) (Ah (AC (K:=K)) rfl (T.own _ (by decide)) boot_len (Aa (pv 5) Ab)) (Aq _))))) (Ae (Am (i:=5) sc_as_group.nd rfl (Or.inl rfl) (Ak (Bw (K:=K)) (Ak (Bw (K:=K)) (Aw (Aa (Ak G1 (Ad c_number_text hr (Aa (pv 7) Ab)) (B8 T.k_OPENING)) Ab)) (pv 8)) (Aw (Aa (B8 T.k_CLOSING) Ab))))) Ar)))))))
      (Ae (Al (pv 5)))))),?_⟩
    walk_at "w";have eS:((j:Nat):Int) - ((i:Nat):Int)=((j - i:Nat):Int):=by omega
    rw [eS];refine AR ⟨by decide,by decide⟩ ?_;walk_at "w";have eN:(((j - i:Nat):Int) / 2+1 - 1).toNat=(j - i) / 2:=by omega
    refine ⟨_,_,rfl,⟨by decide,by decide,by omega,by omega⟩,?_⟩;rw [eN];refine GZ (FC (n:=(j - i) / 2)) (λ m σ H3=>∃ v x6 x7 x8,σ=[some (.ref x),some (nV i),some (nV j),some (.ref d),some (nV (j - i)),some v,x6,x7,x8]/\Same H H3/\BestV H H3 ((List.range' 1 m).foldl (MFew.gStep opn clS Tb xs i j) none) v) ⟨_,_,_,_,rfl,Same.refl _, .inl ⟨rfl,rfl⟩⟩ (λ m σ H3 ⟨_,_,_,_,_,s,_⟩=>s) ?_ ?_
    · rintro m σ H1 H2 hm ⟨v,x6,x7,x8,rfl,s1,b1⟩ s2;have sC:=s1.trans s2;have b2:=b1.on s2;have ev:(1:Int)+((m:Nat):Int)=((1+m:Nat):Int):=by omega
      rw [ev];have ef:(List.range' 1 (m+1)).foldl (MFew.gStep opn clS Tb xs i j) none=MFew.gStep opn clS Tb xs i j ((List.range' 1 m).foldl (MFew.gStep opn clS Tb xs i j) none) (1+m):=by
        rw [List.range'_1_concat,List.foldl_append];rfl
      rw [ef];generalize (List.range' 1 m).foldl (MFew.gStep opn clS Tb xs i j) none=B at b1 b2 ⊢;have hp1:1<=1+m:=by omega
      have hp2:(1+m)*2<=j - i:=by omega
      generalize 1+m=p at hp1 hp2 ⊢;walk_at "w";refine AR ⟨by omega,by omega⟩ ?_;have ed:((j - i:Nat):Int) / ((p:Nat):Int)=(((j - i) / p:Nat):Int):=(Int.natCast_ediv _ _).symm;rw [ed];walk_at "w";refine AR (show (0:Int)<(p:Nat) by omega) ?_;have em:((j - i:Nat):Int)%((p:Nat):Int)=(((j - i)%p:Nat):Int):=(Int.natCast_emod _ _).symm;rw [em];walk_at "w";have stay:MFew.cand opn clS Tb xs i j p=none->MFew.gStep opn clS Tb xs i j B p=B:=λ e=>by unfold MFew.gStep;rw [e]
      refine Le (λ h1=> ?_) (λ h1=> ?_)
      · walk_at "w";rw [stay (if_pos (.inl λ z=>h1 (by rw [z];rfl)))];exact ⟨_,_,_,_,rfl,sC,b2⟩
      walk_at "w";refine A5 (λ h2=> ?_) (λ h2=> ?_)
      · walk_at "w";rw [stay (if_pos (.inr (by omega)))];exact ⟨_,_,_,_,rfl,sC,b2⟩
      walk_at "w";have sx2:=sC.seq sx;refine BQ sx2 λ l1 hl1=> ?_;have e1:((j:Nat):Int) - ((p:Nat):Int)=((j - p:Nat):Int):=by omega
      have e2:((i:Nat):Int)+((p:Nat):Int)=((i+p:Nat):Int):=by omega
      rw [e1,FR (by omega)];have s3:=Aj (o:=HO.lst ((MFew.sl xs i (j - p)).map V.str)) hl1;have g3:upd H2 l1 (HO.lst ((MFew.sl xs i (j - p)).map V.str)) l1=_:=Ag;generalize upd H2 l1 (HO.lst ((MFew.sl xs i (j - p)).map V.str))=H3 at s3 g3 ⊢;walk_at "w";refine BQ (s3.seq sx2) λ l2 hl2=> ?_;rw [e2,FR (by omega)];have s4:=Aj (o:=HO.lst ((MFew.sl xs (i+p) j).map V.str)) hl2;have g4:upd H3 l2 (HO.lst ((MFew.sl xs (i+p) j).map V.str)) l2=_:=Ag;generalize upd H3 l2 (HO.lst ((MFew.sl xs (i+p) j).map V.str))=H4 at s4 g4 ⊢;walk_at "w";refine Nu (SqL.of (s4 _ _ g3)) (SqL.of g4) ?_;walk_at "w";have h1':(j - i)%p=0:=by omega
      have hc:¬ ((j - i)%p≠0\/60<(j - i) / p):=by omega
      have sD:=sC.trans (s3.trans s4);have b4:=b2.on (s3.trans s4);refine Le (λ h3=> ?_) (λ h3=> ?_)
      · walk_at "w";rw [stay ((if_neg hc).trans (if_pos h3))];exact ⟨_,_,_,_,rfl,sD,b4⟩
      have hcand:MFew.cand opn clS Tb xs i j p=some (opn ((j - i) / p)::(Tb i (i+p)++[clS])):=(if_neg hc).trans (if_neg λ z=>z h3);obtain ⟨pw,ew,gw,lw⟩:=(ht i (i+p) (by omega) (by omega) (by omega) (by omega)).on sD;walk_at "w";intro bt hbt;rw [e2];have s5:=Aj (o:=HO.tup [nV i,V.int ((i+p:Nat):Int)]) hbt;have g5:upd H4 bt (HO.tup [nV i,V.int ((i+p:Nat):Int)]) bt=some (.tup (([.inl ((i:Nat):Int), .inl ((i+p:Nat):Int)]:List Key).map kV)):=Ag;generalize upd H4 bt (HO.tup [nV i,V.int ((i+p:Nat):Int)])=H5 at s5 g5 ⊢;have sE:=sD.trans s5;have b5:=b4.on s5;have gw5:=s5 _ _ gw;refine ⟨d, .ref pw,rfl,ew▸DGet.t (k:=[.inl ((i:Nat):Int), .inl ((i+p:Nat):Int)]) (sE _ _ hd) g5,?_⟩;walk_at "w";have t60:(j - i) / p<=60:=by omega
      have new:∀ (R:VK) σ',(∀ H9 l9,Same H5 H9->H5 l9=none->H9 l9=some (.lst ((opn ((j - i) / p)::(Tb i (i+p)++[clS])).map V.str))->R (.ref l9) H9)->σ'=[some (.ref x),some (nV i),some (nV j),some (.ref d),some (nV (j - i)),some v,some (.int (p:Nat)),some (.int ((j - i) / p:Nat)),some (.ref pw)]->
          tOp (IS K) (tOp (IS K) (Ol (HL (tOp (λ x y H Q=>∃ i j,x=V.str i/\y=V.str j/\i.length+j.length<=sizeLine/\Q (V.str (i++j)) H) (IX Bp [] E0 (HL (Lb 7) JK)) (tC (V.str (Str.ofString "(")))) JK)) (Lb 8)) (Ol (HL (tC (V.str (Str.ofString ")"))) JK)) σ' H5 R:=by
        rintro R σ' kk rfl;walk_at "w";refine ⟨(j - i) / p,rfl,by omega,?_⟩;walk_at "w";refine ⟨_,_,rfl,rfl,?_,?_⟩
        · have:=MN.num_len (i:=(((j - i) / p:Nat):Int)) (Int.natCast_nonneg _) (by have:=Int.ofNat_le.mpr t60;exact Int.lt_of_le_of_lt this (by decide));exact Nat.le_trans (Nat.add_le_add_right this _) (by decide)
        walk_at "w";intro q1 hq1;have s6:=Aj (o:=HO.lst [V.str (Str.ofString (toString (((j - i) / p:Nat):Int))++Str.ofString "(")]) hq1;have g6:upd H5 q1 (HO.lst [V.str (Str.ofString (toString (((j - i) / p:Nat):Int))++Str.ofString "(")]) q1=some (.lst ([opn ((j - i) / p)].map V.str)):=Ag;generalize upd H5 q1 (HO.lst [V.str (Str.ofString (toString (((j - i) / p:Nat):Int))++Str.ofString "(")])=H6 at s6 g6 ⊢;walk_at "w";refine F3 (SqL.of g6) (SqL.of (s6 _ _ gw5)) (by rw [List.length_map,List.length_map];simp;omega) λ q2 hq2=> ?_;rw [<-List.map_append];have s7:=Aj (o:=HO.lst (([opn ((j - i) / p)]++Tb i (i+p)).map V.str)) hq2;have g7:upd H6 q2 (HO.lst (([opn ((j - i) / p)]++Tb i (i+p)).map V.str)) q2=_:=Ag;generalize upd H6 q2 (HO.lst (([opn ((j - i) / p)]++Tb i (i+p)).map V.str))=H7 at s7 g7 ⊢;walk_at "w";intro q3 hq3;have s8:=Aj (o:=HO.lst [V.str (Str.ofString ")")]) hq3;have g8:upd H7 q3 (HO.lst [V.str (Str.ofString ")")]) q3=some (.lst ([clS].map V.str)):=Ag;generalize upd H7 q3 (HO.lst [V.str (Str.ofString ")")])=H8 at s8 g8 ⊢;walk_at "w";refine F3 (SqL.of (s8 _ _ g7)) (SqL.of g8) (by rw [List.length_map,List.length_map];simp;omega) λ q4 hq4=> ?_;rw [<-List.map_append];have s9:=Aj (o:=HO.lst ((([opn ((j - i) / p)]++Tb i (i+p))++[clS]).map V.str)) hq4;exact kk _ q4 (s6.trans (s7.trans (s8.trans s9))) (s6.free (s7.free (s8.free hq4))) Ag
      have lnew:(opn ((j - i) / p)::(Tb i (i+p)++[clS])).length=(Tb i (i+p)).length+2:=by simp
      rcases b5 with ⟨rfl,rfl⟩ | ⟨R,pR,rfl,rfl,gR,fR,lR⟩
      · have eg:MFew.gStep opn clS Tb xs i j none p=some (opn ((j - i) / p)::(Tb i (i+p)++[clS])):=by unfold MFew.gStep;rw [hcand];rfl
        rw [eg];refine ⟨rfl,_,rfl,A5 (λ _=> ?_) λ z=>absurd rfl z⟩;refine HU ?_;refine Lj ?_;refine new _ _ (λ H9 l9 s9 f9 g9=> ?_) rfl;walk_at "w";exact ⟨_,_,_,_,rfl,sE.trans s9, .inr ⟨_,l9,rfl,rfl,g9,sE.free f9,by rw [lnew];omega⟩⟩
      · have eg:MFew.gStep opn clS Tb xs i j (some R) p=if (Tb i (i+p)).length+2<R.length then some (opn ((j - i) / p)::(Tb i (i+p)++[clS])) else some R:=by unfold MFew.gStep;rw [hcand, <-lnew];rfl
        rw [eg];refine ⟨rfl,_,rfl,A5 (λ z=>by cases z) λ _=> ?_⟩;walk_at "w";refine Au (SqL.of gw5) ?_;walk_at "w";refine Au (SqL.of gR) ?_;walk_at "w";rw [List.length_map,List.length_map];refine A5 (λ h4=> ?_) (λ h4=> ?_)
        · rw [if_pos (by omega)];refine Lj ?_;refine new _ _ (λ H9 l9 s9 f9 g9=> ?_) rfl;walk_at "w";exact ⟨_,_,_,_,rfl,sE.trans s9, .inr ⟨_,l9,rfl,rfl,g9,sE.free f9,by rw [lnew];omega⟩⟩
        · rw [if_neg (by omega)];walk_at "w";exact ⟨_,_,_,_,rfl,sE, .inr ⟨R,pR,rfl,rfl,gR,fR,lR⟩⟩
    · rintro σ H1 ⟨v,x6,x7,x8,rfl,s1,b1⟩;walk_at "w";exact k H1 v s1 b1
def DO (K:PySem.W.Frag):Sp:=λ vs H Q _=>∃ (x d:Addr) (xs:List Str) (i j:Nat) (kvs:List (List Key × V)) (T:Nat->Nat->List Str),vs=[.ref x,nV i,nV j, .ref d]/\SqL K H x (xs.map V.str)/\i<j/\j<=xs.length/\xs.length<=60/\H d=some (.dT kvs)/\
  (∀ a b,i<=a->a<b->b<=j->b - a<j - i->LookT H kvs T a b)/\∀ H' p,Same H H'->H p=none->H' p=some (.lst ((MFew.fewW opn clS T xs i j).map V.str))->Q (.ref p) H'
noncomputable abbrev CA:Stmt:=top 39
theorem sc_fewest_words:FnScope ["items","first","behind","told","best","middle","ahead","rest"] ["items","first","behind","told"] (Ai CA):=⟨rfl,rfl,rfl,by decide +kernel,rfl,by decide +kernel,by decide +kernel⟩
theorem GM {f:Addr} {fd:FuncData} (F:Fun K "fewest_words" "fewest_words" CA f fd) (T:Txt K mg c) (c_as_group:CallF P w K mg base "as_group" 2 ["items","first","behind","told"] (Gu K)):FnOk P w K mg base CX0 3 f fd ["items","first","behind","told"] (DO K):=by
  refine F.ok sc_fewest_words (λ vs H Q E h=> ?_) (λ cdv A outer s H vs Q E hr h=> ?_)
  · obtain ⟨x,d,xs,i,j,kvs,T,rfl,_⟩:=h;rfl
  · obtain ⟨x,d,xs,i,j,kvs,Tb,rfl,sx,hij,hj,h60,hd,ht,k⟩:=h;have hu:=hr.units0;have hu1:=hr.units1;refine ⟨_,(Ac (AB (An BH (Ak E8 (pv 2) (pv 1)) Af (Aq _)) (Ae (Al (Aw (Aa (Ba (CI (K:=K)) (pv 0) (pv 1) (λ _ _=>rfl)) Ab)))) Ar)
      (Ac (Am (i:=4) sc_fewest_words.nd rfl (Or.inl rfl) (Ad c_as_group hr (Aa (pv 0) (Aa (pv 1) (Aa (pv 2) (Aa (pv 3) Ab))))))
      (Ac (B4 PassesOwn.never rfl (EB rfl (T.own _ (by decide)) (Aa (Ak Ay (pv 1) Af) (Aa (pv 2) Ab))) (AK (i:=5) sc_fewest_words.nd rfl (Or.inl rfl)) (Ac (Am (i:=6) sc_fewest_words.nd rfl (Or.inl rfl) (GO hu1 (pv 3) (Cj (Aa (pv 1) (Aa (pv 5) Ab))) (λ _ _=>rfl)))
      (Ac (Am (i:=7) sc_fewest_words.nd rfl (Or.inl rfl) (GO hu1 (pv 3) (Cj (Aa (pv 5) (Aa (pv 2) Ab))) (λ _ _=>rfl)))
      (Ae (AB (PW.pt (EH (An Lf (pv 4) B3 (Aq _)) (C5 (An Kx (Ak Ay (Ah (AC (K:=K)) rfl (T.own _ (by decide)) boot_len (Aa (pv 6) Ab)) (Ah (AC (K:=K)) rfl (T.own _ (by decide)) boot_len (Aa (pv 7) Ab))) (Ah (AC (K:=K)) rfl (T.own _ (by decide)) boot_len (Aa (pv 4) Ab)) (Aq _))))) (Ae (Am (i:=4) sc_fewest_words.nd rfl (Or.inl rfl) (Ak (Bw (K:=K)) (pv 6) (pv 7)))) Ar)))))
      (Ae (Al (pv 4)))))),?_⟩
    walk_at "w";have eS:((j:Nat):Int) - ((i:Nat):Int)=((j - i:Nat):Int):=by omega
    rw [eS];refine A5 (λ h1=> ?_) (λ h1=> ?_)
    · have h1:j - i=1:=by omega
      walk_at "w";have ei:atI (xs.map V.str) ((i:Nat):Int)=some (.str (xs[i]'(by omega))):=by
        unfold atI ixN;rw [if_pos (by omega),if_pos (by rw [List.length_map];omega)];simp only [Option.bind_some,Int.toNat_natCast];rw [List.getElem?_map,List.getElem?_eq_getElem (by omega)];rfl
      refine Bu sx ei ?_;walk_at "w";intro q hq;refine k _ q (Aj hq) hq ?_;rw [Ag];have:MFew.fewW opn clS Tb xs i j=MFew.sl xs i j:=if_pos h1;have e3:MFew.sl xs (i+1) j=[]:=by unfold MFew.sl;rw [show j - (i+1)=0 by omega];rfl
      rw [this,MFew.sl_cons hij hj,e3];rfl
    have h1:¬ j - i=1:=by omega
    walk_at "w";refine ⟨x,d,xs,i,j,kvs,Tb,rfl,sx,hij,hj,h60,hd,ht,λ H1 v0 s1 b0=> ?_⟩;walk_at "w";have e1:((i:Nat):Int)+1=((i+1:Nat):Int):=by omega
    rw [e1];have eN:(((j:Nat):Int) - ((i+1:Nat):Int)).toNat=j - i - 1:=by omega
    refine ⟨_,_,rfl,⟨by omega,by omega,by omega,by omega⟩,?_⟩;rw [eN];refine GZ (FC (n:=j - i - 1)) (λ m σ H3=>∃ v x5 x6 x7,σ=[some (.ref x),some (nV i),some (nV j),some (.ref d),some v,x5,x6,x7]/\Same H1 H3/\BestV H H3 ((List.range' (i+1) m).foldl (λ b m=>MFew.better b (Tb i m++Tb m j)) (MFew.asGroup opn clS Tb xs i j)) v) ⟨_,_,_,_,rfl,Same.refl _,b0⟩ (λ m σ H3 ⟨_,_,_,_,_,s,_⟩=>s) ?_ ?_
    · rintro m σ H2 H3 hm ⟨v,x5,x6,x7,rfl,s2,b2⟩ s3;have sC:=s1.trans (s2.trans s3);have b3:=b2.on s3;have ev:((i+1:Nat):Int)+((m:Nat):Int)=((i+1+m:Nat):Int):=by omega
      rw [ev];have ef:(List.range' (i+1) (m+1)).foldl (λ b m=>MFew.better b (Tb i m++Tb m j)) (MFew.asGroup opn clS Tb xs i j)=MFew.better ((List.range' (i+1) m).foldl (λ b m=>MFew.better b (Tb i m++Tb m j)) (MFew.asGroup opn clS Tb xs i j)) (Tb i (i+1+m)++Tb (i+1+m) j):=by
        rw [List.range'_1_concat,List.foldl_append];rfl
      rw [ef];generalize (List.range' (i+1) m).foldl (λ b m=>MFew.better b (Tb i m++Tb m j)) (MFew.asGroup opn clS Tb xs i j)=B at b2 b3 ⊢;have hp1:i<i+1+m:=by omega
      have hp2:i+1+m<j:=by omega
      generalize i+1+m=p at hp1 hp2 ⊢;obtain ⟨pa,ea,ga,la⟩:=(ht i p (by omega) (by omega) (by omega) (by omega)).on sC;obtain ⟨pb,eb,gb,lb⟩:=(ht p j (by omega) (by omega) (by omega) (by omega)).on sC;walk_at "w";intro b1 hb1;have s4:=Aj (o:=HO.tup [nV i,V.int (p:Nat)]) hb1;have g4:upd H3 b1 (HO.tup [nV i,V.int (p:Nat)]) b1=some (.tup (([.inl ((i:Nat):Int), .inl ((p:Nat):Int)]:List Key).map kV)):=Ag;generalize upd H3 b1 (HO.tup [nV i,V.int (p:Nat)])=H4 at s4 g4 ⊢;refine ⟨d, .ref pa,rfl,ea▸DGet.t (k:=[.inl ((i:Nat):Int), .inl ((p:Nat):Int)]) (s4 _ _ (sC _ _ hd)) g4,?_⟩;walk_at "w";intro b5 hb5;have s5:=Aj (o:=HO.tup [V.int (p:Nat),nV j]) hb5;have g5:upd H4 b5 (HO.tup [V.int (p:Nat),nV j]) b5=some (.tup (([.inl ((p:Nat):Int), .inl ((j:Nat):Int)]:List Key).map kV)):=Ag;generalize upd H4 b5 (HO.tup [V.int (p:Nat),nV j])=H5 at s5 g5 ⊢;refine ⟨d, .ref pb,rfl,eb▸DGet.t (k:=[.inl ((p:Nat):Int), .inl ((j:Nat):Int)]) (s5 _ _ (s4 _ _ (sC _ _ hd))) g5,?_⟩;have s45:=s4.trans s5;have sE:=sC.trans s45;have bE:=b3.on s45;have ga5:=s45 _ _ ga;have gb5:=s45 _ _ gb;walk_at "w";rcases bE with ⟨rfl,rfl⟩ | ⟨R,pR,rfl,rfl,gR,fR,lR⟩
      · refine ⟨rfl,_,rfl,A5 (λ _=> ?_) λ z=>absurd rfl z⟩;walk_at "w";refine F3 (SqL.of ga5) (SqL.of gb5) (by rw [List.length_map,List.length_map];omega) λ q hq=> ?_;rw [<-List.map_append];have s6:=Aj (o:=HO.lst ((Tb i p++Tb p j).map V.str)) hq;walk_at "w";exact ⟨_,_,_,_,rfl,s2.trans (s3.trans (s45.trans s6)), .inr ⟨_,q,rfl,rfl,Ag,sE.free hq,by rw [List.length_append];omega⟩⟩
      · have eg:MFew.better (some R) (Tb i p++Tb p j)=if (Tb i p).length+(Tb p j).length<R.length then some (Tb i p++Tb p j) else some R:=by rw [<-List.length_append];rfl
        rw [eg];refine ⟨rfl,_,rfl,A5 (λ z=>by cases z) λ _=> ?_⟩;walk_at "w";refine Au (SqL.of ga5) ?_;walk_at "w";refine Au (SqL.of gb5) ?_;walk_at "w";refine Au (SqL.of gR) ?_;walk_at "w";rw [List.length_map,List.length_map,List.length_map];refine A5 (λ h4=> ?_) (λ h4=> ?_)
        · rw [if_pos (by omega)];walk_at "w";refine F3 (SqL.of ga5) (SqL.of gb5) (by rw [List.length_map,List.length_map];omega) λ q hq=> ?_;rw [<-List.map_append];have s6:=Aj (o:=HO.lst ((Tb i p++Tb p j).map V.str)) hq;walk_at "w";exact ⟨_,_,_,_,rfl,s2.trans (s3.trans (s45.trans s6)), .inr ⟨_,q,rfl,rfl,Ag,sE.free hq,by rw [List.length_append];omega⟩⟩
        · rw [if_neg (by omega)];walk_at "w";exact ⟨_,_,_,_,rfl,s2.trans (s3.trans s45), .inr ⟨R,pR,rfl,rfl,gR,fR,lR⟩⟩
    · rintro σ H2 ⟨v,x5,x6,x7,rfl,s2,b2⟩;walk_at "w";have ew:MFew.fewW opn clS Tb xs i j=(MFew.mids opn clS Tb xs i j).getD []:=if_neg h1;have b2:BestV H H2 (MFew.mids opn clS Tb xs i j) v:=b2;rcases b2 with ⟨e,rfl⟩ | ⟨R,pR,e,rfl,gR,fR,lR⟩
      · exfalso;have:MFew.mids opn clS Tb xs i j=((List.range' (i+1) (j - i - 1)).map λ m=>Tb i m++Tb m j).foldl MFew.better (MFew.asGroup opn clS Tb xs i j):=MFew.mfold _ _;obtain ⟨c,hc⟩:=MFew.better_some ((List.range' (i+1) (j - i - 1)).map λ m=>Tb i m++Tb m j) (MFew.asGroup opn clS Tb xs i j) (.inr λ z=>by
          have:=congrArg List.length z;rw [List.length_map,List.length_range'] at this;simp at this;omega)
        rw [<-this,e] at hc;cases hc
      · refine k H2 pR (s1.trans s2) fR ?_;rw [ew,e];exact gR
theorem TB {xs:List Str} {i j:Nat} (h60:xs.length<=60) (h:i<j) (hj:j<=xs.length):(MFew.W opn clS xs i j).length<=1000:=by
  have:=(MFew.W_ok (opn:=opn) (cls:=clS) (plain:=λ _=>True) (λ _ _=>trivial) h60 xs.length i j h hj (by omega)).2 _ (MFew.cost_len _);rw [MFew.sl_len hj] at this;omega
def WAt (H1 H:Hp) (kvs:List (List Key × V)) (xs:List Str) (a b:Nat):Prop:=∃ p,CF kvs [.inl (a:Nat), .inl (b:Nat)]=some (.ref p)/\H p=some (.lst ((MFew.W opn clS xs a b).map V.str))/\H1 p=none
theorem key_eq {a b c d:Nat}:(([.inl (a:Nat), .inl (b:Nat)]:List Key)=[.inl (c:Nat), .inl (d:Nat)])↔a=c/\b=d:=by
  constructor
  · intro h;injection h with h1 h2;injection h2 with h2 _;injection h1 with h1;injection h2 with h2;omega
  · rintro ⟨rfl,rfl⟩;rfl
def DU (K:PySem.W.Frag):Sp:=λ vs H Q _=>∃ (x:Addr) (xs:List Str),vs=[.ref x]/\(SqL K H x (xs.map V.str)\/SqT K H x (xs.map V.str))/\xs≠[]/\xs.length<=60/\∀ H' p,Same H H'->H p=none->H' p=some (.lst ((MFew.W opn clS xs 0 xs.length).map V.str))->Q (.ref p) H'
noncomputable abbrev Fe:Stmt:=top 40
theorem sc_gathered:FnScope ["items","row","told","length","first"] ["items"] (Ai Fe):=⟨rfl,rfl,rfl,by decide +kernel,rfl,by decide +kernel,by decide +kernel⟩
theorem Ki {f:Addr} {fd:FuncData} (F:Fun K "gathered" "gathered" Fe f fd) (T:Txt K mg c) (c_fewest_words:CallF P w K mg base "fewest_words" 3 ["items","first","behind","told"] (DO K)):FnOk P w K mg base CX0 4 f fd ["items"] (DU K):=by
  refine F.ok sc_gathered (λ vs H Q E h=> ?_) (λ cdv A outer s H vs Q E hr h=> ?_)
  · obtain ⟨x,xs,rfl,_⟩:=h;rfl
  · obtain ⟨x,xs,rfl,sx,hne,h60,k⟩:=h;have hu:=hr.units0;have hu1:=hr.units1;have hn:0<xs.length:=List.length_pos_iff.mpr hne;refine ⟨_,(Ac (Am (i:=1) sc_gathered.nd rfl (Or.inl rfl) (Av (Er (K:=K)) rfl (T.own _ (by decide)) AF (Aa (pv 0) Ab)))
      (Ac (Am (i:=2) sc_gathered.nd rfl (Or.inl rfl) (Nq hu1 (Cj (Aa Af (Aa Af Ab))) (Aw Ab)))
      (Ac (B4 PassesOwn.never rfl (EB rfl (T.own _ (by decide)) (Aa Af (Aa (Ak Ay (Ah (AC (K:=K)) rfl (T.own _ (by decide)) boot_len (Aa (pv 1) Ab)) Af) Ab))) (AK (i:=3) sc_gathered.nd rfl (Or.inl rfl)) (Ae (B4 PassesOwn.never rfl (Ey rfl (T.own _ (by decide)) (Aa (Ak Ay (Ak E8 (Ah (AC (K:=K)) rfl (T.own _ (by decide)) boot_len (Aa (pv 1) Ab)) (pv 3)) Af) Ab)) (AK (i:=4) sc_gathered.nd rfl (Or.inl rfl)) (Ae (Pi hu1 (pv 2) (Cj (Aa (pv 4) (Aa (Ak Ay (pv 4) (pv 3)) Ab))) (Ad c_fewest_words hr (Aa (pv 1) (Aa (pv 4) (Aa (Ak Ay (pv 4) (pv 3)) (Aa (pv 2) Ab))))) rfl)))))
      (Ae (Al (GO hu1 (pv 2) (Cj (Aa Af (Aa (Ah (AC (K:=K)) rfl (T.own _ (by decide)) boot_len (Aa (pv 1) Ab)) Ab))) (λ _ _=>rfl))))))),?_⟩
    walk_at "w";refine ⟨x,_,rfl,sx,λ r hr0=> ?_⟩;have s1:=Aj (o:=HO.lst (xs.map V.str)) hr0;have g1:upd H r (HO.lst (xs.map V.str)) r=_:=Ag;generalize upd H r (HO.lst (xs.map V.str))=H1 at s1 g1 ⊢;walk_at "w";intro d hd0;have s2:=Aj (o:=HO.dT []) hd0;have g2:upd H1 d (HO.dT []) d=_:=Ag;generalize upd H1 d (HO.dT [])=H2 at s2 g2 ⊢;refine Kv ?_;walk_at "w";intro b hb;have s3:=Aj (o:=HO.tup [V.int 0,V.int 0]) hb;have g3:upd H2 b (HO.tup [V.int 0,V.int 0]) b=some (.tup (([.inl (0:Int), .inl (0:Int)]:List Key).map kV)):=Ag;generalize upd H2 b (HO.tup [V.int 0,V.int 0])=H3 at s3 g3 ⊢;walk_at "w";intro q hq;have s4:=Aj (o:=HO.lst []) hq;generalize upd H3 q (HO.lst [])=H4 at s4 ⊢;walk_at "w";refine ⟨_,_,rfl,b,_,rfl,s4 _ _ g3,s4 _ _ (s3 _ _ g2),?_⟩;have f5:∀ y o,y≠d->H4 y=some o->upd H4 d (HO.dT [([.inl (0:Int), .inl (0:Int)],V.ref q)]) y=some o:=λ y o hy e=>by rw [As hy];exact e
    have g5:upd H4 d (HO.dT [([.inl (0:Int), .inl (0:Int)],V.ref q)]) d=_:=Ag;generalize upd H4 d (HO.dT [([.inl (0:Int), .inl (0:Int)],V.ref q)])=H5 at f5 g5 ⊢;have s15:Same H1 H5:=λ y o e=>f5 y o (λ z=>by rw [z,hd0] at e;cases e) (s4 _ _ (s3 _ _ (s2 _ _ e)));walk_at "w";refine Au (SqL.of (s15 _ _ g1)) ?_;walk_at "w";rw [List.length_map];have eN:(((xs.length:Nat):Int)+1 - 1).toNat=xs.length:=by omega
    refine ⟨_,_,rfl,⟨by decide,by decide,by omega,by omega⟩,?_⟩;rw [eN];refine Cq (H0:=H1) (FC (n:=xs.length)) (λ m σ H6=>∃ x3 x4 kvs,σ=[some (.ref x),some (.ref r),some (.ref d),x3,x4]/\Same H1 H6/\H6 d=some (.dT kvs)/\kvs.length<=1+100*m/\∀ a b,a<b->b<=xs.length->b - a<=m->WAt H1 H6 kvs xs a b) ⟨_,_,_,rfl,s15,g5,Nat.le_refl 1,λ a b h1 h2 h3=>by omega⟩ (λ m σ H3 ⟨_,_,_,_,s,_⟩=>s) ?_ ?_
    · rintro m σ H6 H7 hm ⟨x3,x4,kvs,rfl,s6,hd6,lk,w6⟩ s7;have ev:(1:Int)+((m:Nat):Int)=((m+1:Nat):Int):=by omega
      rw [ev];walk_at "w";refine Au (SqL.of ((s6.trans s7) _ _ g1)) ?_;walk_at "w";rw [List.length_map];have e2:((xs.length:Nat):Int) - ((m+1:Nat):Int)+1=((xs.length - m:Nat):Int):=by omega
      rw [e2];have s17:=s6.trans s7;refine ⟨_,rfl,by omega,by omega,Cq (H0:=H1) (IC (n:=xs.length - m)) (λ p σ H8=>∃ x4 kv8,σ=[some (.ref x),some (.ref r),some (.ref d),some (nV (m+1)),x4]/\Same H1 H8/\H8 d=some (.dT kv8)/\kv8.length<=1+100*m+p/\∀ a b,a<b->b<=xs.length->(b - a<=m\/(b - a=m+1/\a<p))->WAt H1 H8 kv8 xs a b) ⟨_,kvs,rfl,s17,s7 _ _ hd6,by omega,λ a b h1 h2 h3=> ?_⟩ (λ m σ H3 ⟨_,_,_,s,_⟩=>s) ?_ ?_⟩
      · obtain ⟨p,q1,q2,q3⟩:=w6 a b h1 h2 (by omega);exact ⟨p,q1,s7 _ _ q2,q3⟩
      · rintro p σ H8 H9 hp ⟨x4,kv8,rfl,s8,hd8,lk8,w8⟩ s9;have s19:=s8.trans s9;have ep:((p:Nat):Int)+((m+1:Nat):Int)=((p+(m+1):Nat):Int):=by omega
        walk_at "w";rw [ep];refine ⟨r,d,xs,p,p+(m+1),kv8,MFew.W opn clS xs,rfl,SqL.of (s19 _ _ g1),by omega,by omega,h60,s9 _ _ hd8,λ a b h1 h2 h3 h4=> ?_,λ H10 l s10 hl gl=> ?_⟩
        · obtain ⟨p',q1,q2,q3⟩:=w8 a b h2 (by omega) (.inl (by omega));exact ⟨p',q1,s9 _ _ q2,TB h60 h2 (by omega)⟩
        rw [<-MFew.W_step (by omega)] at gl;have s110:=s19.trans s10;have hd10:=s10 _ _ (s9 _ _ hd8);walk_at "w";intro b hb;rw [ep];have s11:=Aj (o:=HO.tup [V.int ((p:Nat):Int),V.int ((p+(m+1):Nat):Int)]) hb;have g11:upd H10 b (HO.tup [V.int ((p:Nat):Int),V.int ((p+(m+1):Nat):Int)]) b=some (.tup (([.inl ((p:Nat):Int), .inl ((p+(m+1):Nat):Int)]:List Key).map kV)):=Ag;generalize upd H10 b (HO.tup [V.int ((p:Nat):Int),V.int ((p+(m+1):Nat):Int)])=H11 at s11 g11 ⊢;refine ⟨d,_,rfl,DPut.t (k:=[.inl ((p:Nat):Int), .inl ((p+(m+1):Nat):Int)]) (s11 _ _ hd10) g11 (Nat.lt_of_le_of_lt (show kv8.length<=100000 by omega) (by decide)),?_⟩;have nd:∀ y xs',H11 y=some (.lst xs')->y≠d:=λ y xs' e z=>by rw [z,s11 _ _ hd10] at e;cases e
        have f12:∀ y o,y≠d->H11 y=some o->upd H11 d (HO.dT (FJ kv8 [.inl ((p:Nat):Int), .inl ((p+(m+1):Nat):Int)] (V.ref l))) y=some o:=λ y o hy e=>by rw [As hy];exact e
        refine ⟨_,_,rfl,λ y o e=>f12 y o (λ z=>by rw [z,hd0] at e;cases e) (s11 _ _ (s110 _ _ e)),Ag,?_,λ a b h1 h2 h3=> ?_⟩
        · have:=Ee kv8 [.inl ((p:Nat):Int), .inl ((p+(m+1):Nat):Int)] (V.ref l);omega
        · unfold WAt;rw [NQ];by_cases hk:a=p/\b=p+(m+1)
          · rw [if_pos (key_eq.mpr hk)];refine ⟨l,rfl,?_,s19.free hl⟩;rw [hk.1,hk.2];exact f12 l _ (nd l _ (s11 _ _ gl)) (s11 _ _ gl)
          · rw [if_neg λ z=>hk (key_eq.mp z)];obtain ⟨p',q1,q2,q3⟩:=w8 a b h1 h2 (by omega);have q2:=s11 _ _ (s10 _ _ (s9 _ _ q2));exact ⟨p',q1,f12 p' _ (nd p' _ q2) q2,q3⟩
      · rintro σ H8 ⟨x4,kv8,rfl,s8,hd8,lk8,w8⟩;exact ⟨_,_,kv8,rfl,s8,hd8,by omega,λ a b h1 h2 h3=>w8 a b h1 h2 (by omega)⟩
    · rintro σ H6 ⟨x3,x4,kvs,rfl,s6,hd6,lk,w6⟩;obtain ⟨p,q1,q2,q3⟩:=w6 0 xs.length hn (Nat.le_refl _) (by omega);walk_at "w";refine Au (SqL.of (s6 _ _ g1)) ?_;walk_at "w";intro b hb;rw [List.length_map];have s7:=Aj (o:=HO.tup [V.int 0,V.int ((xs.length:Nat):Int)]) hb;have g7:upd H6 b (HO.tup [V.int 0,V.int ((xs.length:Nat):Int)]) b=some (.tup (([.inl ((0:Nat):Int), .inl ((xs.length:Nat):Int)]:List Key).map kV)):=Ag;generalize upd H6 b (HO.tup [V.int 0,V.int ((xs.length:Nat):Int)])=H7 at s7 g7 ⊢;refine ⟨d, .ref p,rfl,q1▸DGet.t (k:=[.inl ((0:Nat):Int), .inl ((xs.length:Nat):Int)]) (s7 _ _ hd6) g7,?_⟩;exact k H7 p (s1.trans (s6.trans s7)) (s1.free q3) (s7 _ _ q2)
noncomputable abbrev colS:Str:="abcdefghijklmnopqrstuvwxyz"
def Hv (z:Str):Prop:=z.length=1/\(!(Builtin.Str.occurrences colS z 0 colS.length 1).isEmpty)=true
def DB:Sp:=λ vs H Q _=>∃ z,vs=[.str z]/\Hv z/\Q (.bl true) H
noncomputable abbrev DQ:Stmt:=top 15
theorem Ji:FnScope ["thing"] ["thing"] (Ai DQ):=⟨rfl,rfl,rfl,by decide +kernel,rfl,by decide +kernel,by decide +kernel⟩
theorem JU {f:Addr} {fd:FuncData} (F:Fun K "is_colour" "is_colour" DQ f fd) (T:Txt K mg c):FnOk P w K mg base CX0 1 f fd ["thing"] DB:=by
  refine F.ok Ji (λ vs H Q E h=> ?_) (λ cdv A outer s H vs Q E hr h=> ?_)
  · obtain ⟨z,rfl,_⟩:=h;rfl
  · obtain ⟨z,rfl,hz,k⟩:=h;refine ⟨_,(Ae (Al (Cg (Ah (A8 (K:=K)) rfl (T.own _ (by decide)) boot_isinstance (Aa (pv 0) (Aa (Bt rfl (T.own _ (by decide)) boot_str) Ab))) (Cg (A6 BH (Ah (AC (K:=K)) rfl (T.own _ (by decide)) boot_len (Aa (pv 0) Ab)) Af (Aq _)) (Du (A6 IK (pv 0) (B8 T.k_COLOURS) (by with_unfolding_all rfl))))))),?_⟩;walk_at "w";refine AN (.str z) (kb (b:=true) (by decide +kernel)) ?_;walk_at "w";refine GT (by rw [hz.1];decide) ?_;walk_at "w";refine A5 (λ _=> ?_) (λ q=>absurd (by rw [hz.1];rfl) q);walk_at "w";refine ⟨_,_,rfl,rfl,?_⟩;rw [hz.2];exact k
def L5:Sp:=λ vs H Q _=>∃ z,vs=[.bl true, .str z]/\Q .non H
noncomputable abbrev Lc:Stmt:=top 22
theorem O3:FnScope ["holds","words"] ["holds","words"] (Ai Lc):=⟨rfl,rfl,rfl,by decide +kernel,rfl,by decide +kernel,by decide +kernel⟩
theorem Pq {f:Addr} {fd:FuncData} (F:Fun K "need" "need" Lc f fd) (T:Txt K mg c):FnOk P w K mg base CX0 1 f fd ["holds","words"] L5:=by
  refine F.ok O3 (λ vs H Q E h=> ?_) (λ cdv A outer s H vs Q E hr h=> ?_)
  · obtain ⟨z,rfl,_⟩:=h;rfl
  · obtain ⟨z,rfl,k⟩:=h;refine ⟨_,(Ae (AB (BL (AT (pv 0))) (Ae Bg) Ar)),?_⟩;walk_at "w";exact k
def EZ:Sp:=λ vs H Q _=>∃ a xs,∃ lo hi:Int,vs=[.ref a, .int lo, .int hi]/\H a=some (.lst xs)/\lo<=xs.length/\xs.length<=hi/\Q (.bl true) H
noncomputable abbrev F2:Stmt:=top 23
theorem Lr:FnScope ["thing","least","most"] ["thing","least","most"] (Ai F2):=⟨rfl,rfl,rfl,by decide +kernel,rfl,by decide +kernel,by decide +kernel⟩
theorem K4 {f:Addr} {fd:FuncData} (F:Fun K "is_list" "is_list" F2 f fd) (T:Txt K mg c) (c_is_among:CallF P w K mg base "is_among" 2 ["thing","least","most"] (A3 K)):FnOk P w K mg base CX0 3 f fd ["thing","least","most"] EZ:=by
  refine F.ok Lr (λ vs H Q E h=> ?_) (λ cdv A outer s H vs Q E hr h=> ?_)
  · obtain ⟨a,xs,lo,hi,rfl,_⟩:=h;rfl
  · obtain ⟨a,xs,lo,hi,rfl,ha,h1,h2,k⟩:=h;refine ⟨_,(Ae (Al (Cg (Ah (A8 (K:=K)) rfl (T.own _ (by decide)) boot_isinstance (Aa (pv 0) (Aa (Bt rfl (T.own _ (by decide)) AF) Ab))) (Du (Ad c_is_among hr (Aa (Ah (AC (K:=K)) rfl (T.own _ (by decide)) boot_len (Aa (pv 0) Ab)) (Aa (pv 1) (Aa (pv 2) Ab)))))))),?_⟩;walk_at "w";refine AN (.lst ha) (kb (b:=true) (by decide +kernel)) ?_;walk_at "w";refine Au (SqL.of ha) ?_;walk_at "w";refine ⟨_,_,_,rfl,⟨_, .int _⟩,?_⟩;refine Gm ?_ k;show (decide (lo<=(xs.length:Nat))&&decide (((xs.length:Nat):Int)<=hi))=true;simp [h1,h2]
def Rise (m:Nat) (ns:List Nat):Prop:=∀ i,i<ns.length->(0::ns).getD i 0+1<=ns.getD i 0/\ns.getD i 0<=m
def Fm:Sp:=λ vs H Q _=>∃ a ns m,vs=[.ref a,nV m]/\H a=some (.lst (ns.map nV))/\Rise m ns/\∀ H',Same H H'->Q (.bl true) H'
noncomputable abbrev Eg:Stmt:=top 24
theorem sc_is_rising:FnScope ["thing","most","last","number"] ["thing","most"] (Ai Eg):=⟨rfl,rfl,rfl,by decide +kernel,rfl,by decide +kernel,by decide +kernel⟩
theorem JI {f:Addr} {fd:FuncData} (F:Fun K "is_rising" "is_rising" Eg f fd) (T:Txt K mg c) (c_is_among:CallF P w K mg base "is_among" 2 ["thing","least","most"] (A3 K)):FnOk P w K mg base CX0 3 f fd ["thing","most"] Fm:=by
  refine F.ok sc_is_rising (λ vs H Q E h=> ?_) (λ cdv A outer s H vs Q E hr h=> ?_)
  · obtain ⟨a,ns,m,rfl,_⟩:=h;rfl
  · obtain ⟨a,ns,m,rfl,ha,hr',k⟩:=h;refine ⟨_,(Ac (AB (BL (AT (Ah (A8 (K:=K)) rfl (T.own _ (by decide)) boot_isinstance (Aa (pv 0) (Aa (Bt rfl (T.own _ (by decide)) AF) Ab))))) (Ae (Al El)) Ar)
      (Ac (Am (i:=2) sc_is_rising.nd rfl (Or.inl rfl) Af)
      (Ac (B4 PassesOwn.never rfl (Bi (K:=K) (pv 0)) (AK (i:=3) sc_is_rising.nd rfl (Or.inl rfl)) (Ac (AB (BL (AT (Ad c_is_among hr (Aa (pv 3) (Aa (Ak Ay (pv 2) Af) (Aa (pv 1) Ab)))))) (Ae (Al El)) Ar)
      (Ae (Am (i:=2) sc_is_rising.nd rfl (Or.inl rfl) (pv 3)))))
      (Ae (Al El))))),?_⟩
    walk_at "w";refine AN (.lst ha) (kb (b:=true) (by decide +kernel)) ?_;walk_at "w";refine ⟨a,rfl,⟨_,SqL.of ha⟩,GZ (GP (SqL.of ha)) (λ i σ H3=>∃ x,σ=[some (.ref a),some (nV m),some (nV ((0::ns).getD i 0)),x]/\Same H H3) ⟨_,rfl,Same.refl _⟩ (λ i σ H3 ⟨_,_,s⟩=>s) ?_ ?_⟩
    · rintro i σ H' H3 hi ⟨x,rfl,s'⟩ s3;have hi':i<ns.length:=by simpa using hi
      have hq:=hr' i hi';rw [KL hi];walk_at "w";refine ⟨_,_,_,rfl,⟨_, .int _⟩,?_⟩;walk_at "w";have e:EY (.int (ns.getD i 0:Nat)) (((0::ns).getD i 0:Nat)+1) (m:Nat)=true:=by
        show (decide ((((0::ns).getD i 0:Nat):Int)+1<=(ns.getD i 0:Nat))&&decide (((ns.getD i 0:Nat):Int)<=(m:Nat)))=true;simp only [Bool.and_eq_true,decide_eq_true_eq];omega
      rw [e];refine Ls ?_;walk_at "w";exact ⟨_,rfl,s'.trans s3⟩
    · rintro σ H3 ⟨x,rfl,s3⟩;walk_at "w";exact k H3 s3
def EM:Sp:=λ vs H Q _=>∃ v ls m,vs=[v,nV m]/\Rp H FT 2 v (dLL ls)/\(∀ l∈ls,Rise m l)/\∀ H',Same H H'->Q (.bl true) H'
noncomputable abbrev Dx:Stmt:=top 25
theorem Io:FnScope ["thing","most"] ["thing","most"] (Ai Dx):=⟨rfl,rfl,rfl,by decide +kernel,rfl,by decide +kernel,by decide +kernel⟩
theorem Ii {f:Addr} {fd:FuncData} (F:Fun K "are_rising" "are_rising" Dx f fd) (T:Txt K mg c) (c_is_rising:CallF P w K mg base "is_rising" 3 ["thing","most"] Fm):FnOk P w K mg base CX0 4 f fd ["thing","most"] EM:=by
  refine F.ok Io (λ vs H Q E h=> ?_) (λ cdv A outer s H vs Q E hr h=> ?_)
  · obtain ⟨v,ls,m,rfl,_⟩:=h;rfl
  · obtain ⟨v,ls,m,rfl,rv,hr',k⟩:=h;obtain ⟨m',a,vs,em,rfl,ha,_,hl,hb,el⟩:=C4 rv;cases em;rw [List.length_map] at hl;refine ⟨_,(Ae (Al (Ah (J9 (K:=K)) rfl (T.own _ (by decide)) Da (Aa (AA (Bi (K:=K) (pv 0)) (λ _ _ _ _=>Ax) (λ _ _ _ _=>(Ad c_is_rising hr (Aa (pv 0) (Aa (pv 1) Ab))))) Ab)))),?_⟩;walk_at "w";refine ⟨a,rfl,⟨_,SqL.of ha⟩,λ D hD=> ?_⟩;refine FP (G:=λ _=>true) (AH (SqL.of ha) rfl) hD hb ?_ ?_
    · intro i H' R hi s kk;have hi':i<ls.length:=by omega
      have r:=el i (by simpa using hi');rw [getD_map dL ls i .non [] hi'] at r;obtain ⟨b,eb,hb2,_,_⟩:=Gr r;rw [eb];walk_at "w";exact ⟨b,_,m,rfl,s _ _ hb2,hr' _ (getD_mem hi'),kk⟩
    · intro H' s hl2;walk_at "w";refine Hk (SqL.of hl2) ?_;refine Gm ?_ (k H' s);simp
def DT:Sp:=λ vs H Q _=>∃ (a:Addr) (zs:List Str),vs=[.ref a,nV zs.length]/\H a=some (.lst (zs.map V.str))/\zs.length<=1000/\(∀ z∈zs,Hv z)/\∀ H',Same H H'->Q (.bl true) H'
noncomputable abbrev C2:Stmt:=top 26
theorem HH:FnScope ["thing","many"] ["thing","many"] (Ai C2):=⟨rfl,rfl,rfl,by decide +kernel,rfl,by decide +kernel,by decide +kernel⟩
theorem Hq {f:Addr} {fd:FuncData} (F:Fun K "are_colours" "are_colours" C2 f fd) (T:Txt K mg c) (c_is_list:CallF P w K mg base "is_list" 3 ["thing","least","most"] EZ) (c_is_colour:CallF P w K mg base "is_colour" 1 ["thing"] DB):FnOk P w K mg base CX0 4 f fd ["thing","many"] DT:=by
  refine F.ok HH (λ vs H Q E h=> ?_) (λ cdv A outer s H vs Q E hr h=> ?_)
  · obtain ⟨a,zs,rfl,_⟩:=h;rfl
  · obtain ⟨a,zs,rfl,ha,hz,hc,k⟩:=h;refine ⟨_,(Ae (Al (Cg (Ad c_is_list hr (Aa (pv 0) (Aa (pv 1) (Aa (pv 1) Ab)))) (Du (Ah (J9 (K:=K)) rfl (T.own _ (by decide)) Da (Aa (AA (Bi (K:=K) (pv 0)) (λ _ _ _ _=>Ax) (λ _ _ _ _=>(Ad c_is_colour (hr.mono (by decide)) (Aa (pv 0) Ab)))) Ab)))))),?_⟩;walk_at "w";refine ⟨a,_,_,_,rfl,ha,by simp,by simp,?_⟩;walk_at "w";refine ⟨a,rfl,⟨_,SqL.of ha⟩,λ D hD=> ?_⟩;refine FP (G:=λ _=>true) (AH (SqL.of ha) rfl) hD (by rw [List.length_map];omega) ?_ ?_
    · intro i H' R hi s kk;have hi':i<zs.length:=by simpa using hi
      rw [Fv hi];walk_at "w";exact ⟨_,rfl,hc _ (getD_mem hi'),kk H' (Same.refl _)⟩
    · intro H' s hl2;walk_at "w";refine Hk (SqL.of hl2) ?_;refine Gm ?_ (k H' s);simp
structure Dr where
  sh:Nat
  tr:Nat
  th:List Nat
  ti:List (List Nat)
  td:List (List Nat)
  wa:List Str
  we:List Str
structure DrOk (d:Dr):Prop where
  s1:1<=d.sh
  s2:d.sh<=16
  t1:1<=d.tr
  t2:d.tr<=16
  h1:1<=d.th.length
  h2:d.th.length<=60
  hs:∀ n∈d.th,n<=d.sh
  il:d.ti.length=d.tr
  ir:∀ l∈d.ti,Rise d.sh l
  p1:1<=d.td.length
  p2:d.td.length<=60
  pr:∀ l∈d.td,Rise d.tr l
  wl:d.wa.length=d.th.length
  wc:∀ z∈d.wa,Hv z
  fl:d.we.length=d.td.length
  fc:∀ z∈d.we,Hv z
structure Parts (H:Hp) (d:Dr) (vs:List V):Prop where
  ex:∃ a1 v2 v3 a4 a5,vs=[nV d.sh,nV d.tr, .ref a1,v2,v3, .ref a4, .ref a5]/\H a1=some (.lst (d.th.map nV))/\Rp H FT 2 v2 (dLL d.ti)/\Rp H FT 2 v3 (dLL d.td)/\H a4=some (.lst (d.wa.map V.str))/\H a5=some (.lst (d.we.map V.str))
theorem Parts.same {H H':Hp} {d:Dr} {vs:List V} (p:Parts H d vs) (s:Same H H'):Parts H' d vs:=by
  obtain ⟨a1,v2,v3,a4,a5,e,h1,h2,h3,h4,h5⟩:=p.ex;exact ⟨a1,v2,v3,a4,a5,e,s _ _ h1,h2.same s,h3.same s,s _ _ h4,s _ _ h5⟩
theorem am {n:Nat} {lo hi:Int} (h1:lo<=n) (h2:(n:Int)<=hi):EY (nV n) lo hi=true:=by
  show (decide (lo<=(n:Nat))&&decide (((n:Nat):Int)<=hi))=true;simp [h1,h2]
def EO:Sp:=λ vs H Q _=>∃ d,Parts H d vs/\DrOk d/\∀ H',Same H H'->Q .non H'
noncomputable abbrev De:Stmt:=top 27
theorem Im:FnScope ["shafts","treadles","threading","ties","treading","warp","weft"] ["shafts","treadles","threading","ties","treading","warp","weft"] (Ai De):=⟨rfl,rfl,rfl,by decide +kernel,rfl,by decide +kernel,by decide +kernel⟩
theorem Ik {f:Addr} {fd:FuncData} (F:Fun K "need_draft" "need_draft" De f fd) (T:Txt K mg c) (c_need:CallF P w K mg base "need" 1 ["holds","words"] L5) (c_is_among:CallF P w K mg base "is_among" 2 ["thing","least","most"] (A3 K)) (c_is_list:CallF P w K mg base "is_list" 3 ["thing","least","most"] EZ) (c_are_rising:CallF P w K mg base "are_rising" 4 ["thing","most"] EM) (c_are_colours:CallF P w K mg base "are_colours" 4 ["thing","many"] DT):FnOk P w K mg base CX0 5 f fd ["shafts","treadles","threading","ties","treading","warp","weft"] EO:=by
  refine F.ok Im (λ vs H Q E h=> ?_) (λ cdv A outer s H vs Q E hr h=> ?_)
  · obtain ⟨d,⟨a1,v2,v3,a4,a5,rfl,_⟩,_⟩:=h;rfl
  · obtain ⟨d,⟨a1,v2,v3,a4,a5,rfl,h1,h2,h3,h4,h5⟩,ok,k⟩:=h;obtain ⟨m2,a2,vs2,em2,rfl,ha2,_,hl2,hb2,el2⟩:=C4 h2;obtain ⟨m3,a3,vs3,em3,rfl,ha3,_,hl3,hb3,el3⟩:=C4 h3;rw [List.length_map] at hl2 hl3;refine ⟨_,(Ac (Az (Ad c_need (hr.mono (by decide)) (Aa (Ad c_is_among (hr.mono (by decide)) (Aa (pv 0) (Aa Af (Aa (DH T.k_MOST_SHAFTS) Ab)))) (Aa Ao Ab))))
      (Ac (Az (Ad c_need (hr.mono (by decide)) (Aa (Ad c_is_among (hr.mono (by decide)) (Aa (pv 1) (Aa Af (Aa (DH T.k_MOST_TREADLES) Ab)))) (Aa Ao Ab))))
      (Ac (Az (Ad c_need (hr.mono (by decide)) (Aa (Ad c_is_list (hr.mono (by decide)) (Aa (pv 2) (Aa Af (Aa (DH T.k_MOST_ENDS) Ab)))) (Aa Ao Ab))))
      (Ac (Az (Ad c_need (hr.mono (by decide)) (Aa (Ah (J9 (K:=K)) rfl (T.own _ (by decide)) Da (Aa (AA (Bi (K:=K) (pv 2)) (λ _ _ _ _=>Ax) (λ _ _ _ _=>(Ad c_is_among (hr.mono (by decide)) (Aa (pv 0) (Aa Af (Aa (pv 1) Ab)))))) Ab)) (Aa Ao Ab))))
      (Ac (Az (Ad c_need (hr.mono (by decide)) (Aa (Ad c_is_list (hr.mono (by decide)) (Aa (pv 3) (Aa (pv 1) (Aa (pv 1) Ab)))) (Aa Ao Ab))))
      (Ac (Az (Ad c_need (hr.mono (by decide)) (Aa (Ad c_are_rising hr (Aa (pv 3) (Aa (pv 0) Ab))) (Aa Ao Ab))))
      (Ac (Az (Ad c_need (hr.mono (by decide)) (Aa (Ad c_is_list (hr.mono (by decide)) (Aa (pv 4) (Aa Af (Aa (DH T.k_MOST_PICKS) Ab)))) (Aa Ao Ab))))
      (Ac (Az (Ad c_need (hr.mono (by decide)) (Aa (Ad c_are_rising hr (Aa (pv 4) (Aa (pv 1) Ab))) (Aa Ao Ab))))
      (Ac (Az (Ad c_need (hr.mono (by decide)) (Aa (Ad c_are_colours hr (Aa (pv 5) (Aa (Ah (AC (K:=K)) rfl (T.own _ (by decide)) boot_len (Aa (pv 2) Ab)) Ab))) (Aa Ao Ab))))
      (Ae (Az (Ad c_need (hr.mono (by decide)) (Aa (Ad c_are_colours hr (Aa (pv 6) (Aa (Ah (AC (K:=K)) rfl (T.own _ (by decide)) boot_len (Aa (pv 4) Ab)) Ab))) (Aa Ao Ab)))))))))))))),?_⟩
    walk_at "w";refine ⟨_,_,_,rfl,⟨_, .int _⟩,?_⟩;walk_at "w";rw [am (by have:=ok.s1;omega) (by have:=ok.s2;omega)];refine ⟨_,rfl,?_⟩;walk_at "w";refine ⟨_,_,_,rfl,⟨_, .int _⟩,?_⟩;walk_at "w";rw [am (by have:=ok.t1;omega) (by have:=ok.t2;omega)];refine ⟨_,rfl,?_⟩;walk_at "w";refine ⟨a1,_,_,_,rfl,h1,by have:=ok.h1;simp;omega,by have:=ok.h2;simp;omega,?_⟩;walk_at "w";refine ⟨_,rfl,?_⟩;walk_at "w";refine ⟨a1,rfl,⟨_,SqL.of h1⟩,λ D hD=> ?_⟩;refine FP (G:=λ _=>true) (AH (SqL.of h1) rfl) hD (by have:=ok.h2;rw [List.length_map];omega) ?_ ?_
    · intro i H' R hi s kk;have hi':i<d.th.length:=by simpa using hi
      rw [KL hi];walk_at "w";refine ⟨_,_,_,rfl,⟨_, .int _⟩,?_⟩;have:=ok.hs _ (getD_mem (y:=0) hi');rw [am (by omega) (by omega)];exact kk H' (Same.refl _)
    intro H1 s1 hl1;walk_at "w";refine Hk (SqL.of hl1) ?_;rw [show ((List.range (d.th.map nV).length).map λ _=>true).all id=true by simp];walk_at "w";refine ⟨_,rfl,?_⟩;walk_at "w";refine ⟨a2,_,_,_,rfl,s1 _ _ ha2,by have:=ok.il;omega,by have:=ok.il;omega,?_⟩;walk_at "w";refine ⟨_,rfl,?_⟩;walk_at "w";refine ⟨_,d.ti,d.sh,rfl,h2.same s1,ok.ir,λ H2 s2=> ?_⟩;walk_at "w";refine ⟨_,rfl,?_⟩;walk_at "w";have s12:=s1.trans s2;refine ⟨a3,_,_,_,rfl,s12 _ _ ha3,by have:=ok.p1;omega,by have:=ok.p2;omega,?_⟩;walk_at "w";refine ⟨_,rfl,?_⟩;walk_at "w";refine ⟨_,d.td,d.tr,rfl,h3.same s12,ok.pr,λ H3 s3=> ?_⟩;have s13:=s12.trans s3;walk_at "w";refine ⟨_,rfl,?_⟩;walk_at "w";refine Au (SqL.of (s13 _ _ h1)) ?_;walk_at "w";refine ⟨a4,d.wa,by rw [List.length_map,ok.wl],s13 _ _ h4,by have:=ok.wl;have:=ok.h2;omega,ok.wc,λ H4 s4=> ?_⟩;have s14:=s13.trans s4;walk_at "w";refine ⟨_,rfl,?_⟩;walk_at "w";refine Au (SqL.of (s14 _ _ ha3)) ?_;walk_at "w";refine ⟨a5,d.we,by rw [hl3,ok.fl],s14 _ _ h5,by have:=ok.fl;have:=ok.p2;omega,ok.fc,λ H5 s5=> ?_⟩;walk_at "w";refine ⟨_,rfl,?_⟩;walk_at "w";exact k _ (s14.trans s5)
def DrAt (C:Addr) (H:Hp) (x:Addr) (d:Dr):Prop:=∃ dx v1 v2 v3 v4 v5,H x=some (.ins C dx [("shafts",nV d.sh),("treadles",nV d.tr),("threading",v1),("ties",v2),("treading",v3),("warp",v4),("weft",v5)])/\
  Rp H FT 1 v1 (dT d.th)/\Rp H FT 2 v2 (dTT d.ti)/\Rp H FT 2 v3 (dTT d.td)/\Rp H FT 1 v4 (dST d.wa)/\Rp H FT 1 v5 (dST d.we)
theorem DrAt.same {C:Addr} {H H':Hp} {x:Addr} {d:Dr} (h:DrAt C H x d) (s:Same H H'):DrAt C H' x d:=by
  obtain ⟨dx,v1,v2,v3,v4,v5,h0,h1,h2,h3,h4,h5⟩:=h;exact ⟨dx,v1,v2,v3,v4,v5,s _ _ h0,h1.same s,h2.same s,h3.same s,h4.same s,h5.same s⟩
def Bk (c:Cs):Sp:=λ vs H Q _=>∃ (x dx:Addr) (ws:List V) (d:Dr),vs= .ref x::ws/\H x=some (.ins c.Draft dx [])/\Parts H d ws/\DrOk d/\∀ H',But x H H'->DrAt c.Draft H' x d->Q .non H'
noncomputable abbrev BW:Stmt:=BY (top 28) 0
theorem Fg:FnScope ["self","shafts","treadles","threading","ties","treading","warp","weft"] ["self","shafts","treadles","threading","ties","treading","warp","weft"] (Ai BW):=⟨rfl,rfl,rfl,by decide +kernel,rfl,by decide +kernel,by decide +kernel⟩
theorem FV {f:Addr} {fd:FuncData} (F:Fun K "__init__" "Draft.__init__" BW f fd) (T:Txt K mg c) (c_need_draft:CallF P w K mg base "need_draft" 5 ["shafts","treadles","threading","ties","treading","warp","weft"] EO):FnOk P w K mg base CX0 6 f fd ["self","shafts","treadles","threading","ties","treading","warp","weft"] (Bk c):=by
  refine F.ok Fg (λ vs H Q E h=> ?_) (λ cdv A outer s H vs Q E hr h=> ?_)
  · obtain ⟨x,dx,ws,d,rfl,_,⟨a1,v2,v3,a4,a5,rfl,_⟩,_⟩:=h;rfl
  · obtain ⟨x,dx,ws,d,rfl,hx,ps,ok,k⟩:=h;have ps0:=ps;obtain ⟨a1,v2,v3,a4,a5,rfl,h1,h2,h3,h4,h5⟩:=ps;refine ⟨_,(Ac (Az (Ad c_need_draft hr (Aa (pv 1) (Aa (pv 2) (Aa (pv 3) (Aa (pv 4) (Aa (pv 5) (Aa (pv 6) (Aa (pv 7) Ab)))))))))
      (Ac (Fa (pv 0) (pv 1) rfl)
      (Ac (Fa (pv 0) (pv 2) rfl)
      (Ac (Fa (pv 0) (Av (CN (K:=K)) rfl (T.own _ (by decide)) AI (Aa (pv 3) Ab)) rfl)
      (Ac (Fa (pv 0) (Av (CN (K:=K)) rfl (T.own _ (by decide)) AI (Aa (AA (Bi (K:=K) (pv 4)) (λ _ _ _ _=>Ax) (λ _ _ _ _=>(Av (CN (K:=K)) rfl (T.own _ (by decide)) AI (Aa (pv 0) Ab)))) Ab)) rfl)
      (Ac (Fa (pv 0) (Av (CN (K:=K)) rfl (T.own _ (by decide)) AI (Aa (AA (Bi (K:=K) (pv 5)) (λ _ _ _ _=>Ax) (λ _ _ _ _=>(Av (CN (K:=K)) rfl (T.own _ (by decide)) AI (Aa (pv 0) Ab)))) Ab)) rfl)
      (Ac (Fa (pv 0) (Av (CN (K:=K)) rfl (T.own _ (by decide)) AI (Aa (pv 6) Ab)) rfl)
      (Ae (Fa (pv 0) (Av (CN (K:=K)) rfl (T.own _ (by decide)) AI (Aa (pv 7) Ab)) rfl))))))))),?_⟩
    walk_at "w";refine ⟨d,ps0,ok,λ H1 s1=> ?_⟩;walk_at "w";have B:But x H H1:=But.of s1;have hx1:=s1 _ _ hx;refine E7 hx1 T.kd_Draft.cl T.na_Draft_shafts (by decide) ?_;replace B:=B.put (o:=HO.ins c.Draft dx (A1 "shafts" (nV d.sh) []));have hx2:upd H1 x (HO.ins c.Draft dx (A1 "shafts" (nV d.sh) [])) x=_:=Ag;generalize upd H1 x (HO.ins c.Draft dx (A1 "shafts" (nV d.sh) []))=H2 at B hx2 ⊢;walk_at "w";refine E7 hx2 T.kd_Draft.cl T.na_Draft_treadles (by show 1<1000;decide) ?_;replace B:=B.put (o:=HO.ins c.Draft dx (A1 "treadles" (nV d.tr) (A1 "shafts" (nV d.sh) [])));have hx3:upd H2 x (HO.ins c.Draft dx (A1 "treadles" (nV d.tr) (A1 "shafts" (nV d.sh) []))) x=_:=Ag;generalize upd H2 x (HO.ins c.Draft dx (A1 "treadles" (nV d.tr) (A1 "shafts" (nV d.sh) [])))=H3 at B hx3 ⊢;walk_at "w";refine B1 (SqL.of (B _ _ h1 (DP h1 hx (by intro z;cases z)))) λ t1 ht1=> ?_;walk_at "w";have hx3':=Aj (o:=HO.tup (d.th.map nV)) ht1 _ _ hx3;have r1:Rp (upd H3 t1 (HO.tup (d.th.map nV))) FT 1 (.ref t1) (dT d.th):=RL Ag (by have:=ok.h2;omega);replace B:=B.same (Aj (o:=HO.tup (d.th.map nV)) ht1);generalize upd H3 t1 (HO.tup (d.th.map nV))=H4 at B hx3' r1 ⊢;refine E7 hx3' T.kd_Draft.cl T.na_Draft_threading (by show 2<1000;decide) ?_;replace r1:=r1.ins (o:=HO.ins c.Draft dx (A1 "threading" (.ref t1) (A1 "treadles" (nV d.tr) (A1 "shafts" (nV d.sh) [])))) hx3';replace B:=B.put (o:=HO.ins c.Draft dx (A1 "threading" (.ref t1) (A1 "treadles" (nV d.tr) (A1 "shafts" (nV d.sh) []))));have hx5:upd H4 x (HO.ins c.Draft dx (A1 "threading" (.ref t1) (A1 "treadles" (nV d.tr) (A1 "shafts" (nV d.sh) [])))) x=_:=Ag;generalize upd H4 x (HO.ins c.Draft dx (A1 "threading" (.ref t1) (A1 "treadles" (nV d.tr) (A1 "shafts" (nV d.sh) []))))=H5 at B hx5 r1 ⊢;walk_at "w";obtain ⟨m2,a2,vs2,em2,rfl,ha2,_,hl2,hb2,el2⟩:=C4 (B.rp hx h2);cases em2;rw [List.length_map] at hl2;refine ⟨a2,rfl,⟨_,SqL.of ha2⟩,λ D hD=> ?_⟩;refine AL (m:=1) (G:=λ i=>dT (d.ti.getD i [])) (AH (SqL.of ha2) rfl) hD hb2 ?_ ?_
    · intro i H' R hi s kk;have hi':i<d.ti.length:=by omega
      have r:=el2 i (by simpa using hi');rw [getD_map dL d.ti i .non [] hi'] at r;obtain ⟨b,eb,hb3,_,hb4⟩:=Gr r;rw [eb];walk_at "w";exact B1 (SqL.of (s _ _ hb3)) λ q hq=>kk _ _ (Aj hq) (RL Ag hb4)
    intro H6 ys s6 hl6 r2;rw [hl2,P6] at r2;walk_at "w";refine B1 (SqL.of hl6) λ t2 ht2=> ?_;walk_at "w";replace r2:Rp (upd H6 t2 (HO.tup ys)) FT 2 (.ref t2) (dTT d.ti):=(r2.tupd hl6 ht2).any;have s62:=s6.trans (Aj (o:=HO.tup ys) ht2);replace B:=B.same s62;replace r1:=r1.same s62;have hx6:=s62 _ _ hx5;generalize upd H6 t2 (HO.tup ys)=H7 at B hx6 r1 r2 ⊢;refine E7 hx6 T.kd_Draft.cl T.na_Draft_ties (by show 3<1000;decide) ?_;generalize ef:A1 "ties" (V.ref t2) _=f7;replace r1:=r1.ins (o:=HO.ins c.Draft dx f7) hx6;replace r2:=r2.ins (o:=HO.ins c.Draft dx f7) hx6;replace B:=B.put (o:=HO.ins c.Draft dx f7);have hx8:upd H7 x (HO.ins c.Draft dx f7) x=_:=Ag;generalize upd H7 x (HO.ins c.Draft dx f7)=H8 at B hx8 r1 r2 ⊢;subst ef;walk_at "w";obtain ⟨m3,a3,vs3,em3,rfl,ha3,_,hl3,hb3,el3⟩:=C4 (B.rp hx h3);cases em3;rw [List.length_map] at hl3;refine ⟨a3,rfl,⟨_,SqL.of ha3⟩,λ D hD=> ?_⟩;refine AL (m:=1) (G:=λ i=>dT (d.td.getD i [])) (AH (SqL.of ha3) rfl) hD hb3 ?_ ?_
    · intro i H' R hi s kk;have hi':i<d.td.length:=by omega
      have r:=el3 i (by simpa using hi');rw [getD_map dL d.td i .non [] hi'] at r;obtain ⟨b,eb,hb3,_,hb4⟩:=Gr r;rw [eb];walk_at "w";exact B1 (SqL.of (s _ _ hb3)) λ q hq=>kk _ _ (Aj hq) (RL Ag hb4)
    intro H9 ys9 s9 hl9 r3;rw [hl3,P6] at r3;walk_at "w";refine B1 (SqL.of hl9) λ t3 ht3=> ?_;walk_at "w";replace r3:Rp (upd H9 t3 (HO.tup ys9)) FT 2 (.ref t3) (dTT d.td):=(r3.tupd hl9 ht3).any;have s93:=s9.trans (Aj (o:=HO.tup ys9) ht3);replace B:=B.same s93;replace r1:=r1.same s93;replace r2:=r2.same s93;have hx9:=s93 _ _ hx8;generalize upd H9 t3 (HO.tup ys9)=HA at B hx9 r1 r2 r3 ⊢;refine E7 hx9 T.kd_Draft.cl T.na_Draft_treading (by show 4<1000;decide) ?_;generalize ef:A1 "treading" (V.ref t3) _=f9;replace r1:=r1.ins (o:=HO.ins c.Draft dx f9) hx9;replace r2:=r2.ins (o:=HO.ins c.Draft dx f9) hx9;replace r3:=r3.ins (o:=HO.ins c.Draft dx f9) hx9;replace B:=B.put (o:=HO.ins c.Draft dx f9);have hxB:upd HA x (HO.ins c.Draft dx f9) x=_:=Ag;generalize upd HA x (HO.ins c.Draft dx f9)=HB at B hxB r1 r2 r3 ⊢;subst ef;walk_at "w";refine B1 (SqL.of (B _ _ h4 (DP h4 hx (by intro z;cases z)))) λ t4 ht4=> ?_;walk_at "w";have r4:Rp (upd HB t4 (HO.tup (d.wa.map V.str))) FT 1 (.ref t4) (dST d.wa):=PY Ag (by have:=ok.h2;have:=ok.wl;omega);have sB:=Aj (o:=HO.tup (d.wa.map V.str)) ht4;replace B:=B.same sB;replace r1:=r1.same sB;replace r2:=r2.same sB;replace r3:=r3.same sB;replace hxB:=sB _ _ hxB;generalize upd HB t4 (HO.tup (d.wa.map V.str))=HC at B hxB r1 r2 r3 r4 ⊢;refine E7 hxB T.kd_Draft.cl T.na_Draft_warp (by show 5<1000;decide) ?_;generalize ef:A1 "warp" (V.ref t4) _=fC;replace r1:=r1.ins (o:=HO.ins c.Draft dx fC) hxB;replace r2:=r2.ins (o:=HO.ins c.Draft dx fC) hxB;replace r3:=r3.ins (o:=HO.ins c.Draft dx fC) hxB;replace r4:=r4.ins (o:=HO.ins c.Draft dx fC) hxB;replace B:=B.put (o:=HO.ins c.Draft dx fC);have hxD:upd HC x (HO.ins c.Draft dx fC) x=_:=Ag;generalize upd HC x (HO.ins c.Draft dx fC)=HD at B hxD r1 r2 r3 r4 ⊢;subst ef;walk_at "w";refine B1 (SqL.of (B _ _ h5 (DP h5 hx (by intro z;cases z)))) λ t5 ht5=> ?_;walk_at "w";have r5:Rp (upd HD t5 (HO.tup (d.we.map V.str))) FT 1 (.ref t5) (dST d.we):=PY Ag (by have:=ok.p2;have:=ok.fl;omega);have sD:=Aj (o:=HO.tup (d.we.map V.str)) ht5;replace B:=B.same sD;replace r1:=r1.same sD;replace r2:=r2.same sD;replace r3:=r3.same sD;replace r4:=r4.same sD;replace hxD:=sD _ _ hxD;generalize upd HD t5 (HO.tup (d.we.map V.str))=HE at B hxD r1 r2 r3 r4 r5 ⊢;refine E7 hxD T.kd_Draft.cl T.na_Draft_weft (by show 6<1000;decide) ?_;generalize ef:A1 "weft" (V.ref t5) _=fE;replace r1:=r1.ins (o:=HO.ins c.Draft dx fE) hxD;replace r2:=r2.ins (o:=HO.ins c.Draft dx fE) hxD;replace r3:=r3.ins (o:=HO.ins c.Draft dx fE) hxD;replace r4:=r4.ins (o:=HO.ins c.Draft dx fE) hxD;replace r5:=r5.ins (o:=HO.ins c.Draft dx fE) hxD;replace B:=B.put (o:=HO.ins c.Draft dx fE);have hxF:upd HD x (HO.ins c.Draft dx fE) x=_:=Ag;walk_at "w";subst ef;exact k _ B ⟨dx,_,_,_,_,_,Ag,r1,r2,r3,r4,r5⟩
theorem LS {c:Cs} {H:Hp} {Q:VK} {d:Dr} {ws:List V} (ps:Parts H d ws) (ok:DrOk d) (h:∀ H' x,Same H H'->H x=none->DrAt c.Draft H' x d->Q (.ref x) H'):
    ∀ x dx,H x=none->H dx=none->dx≠x->Bk c (.ref x::ws) (upd (upd H dx (.own x)) x (.ins c.Draft dx [])) (λ v H2=>v= .non/\Q (.ref x) H2) E0:=by
  intro x dx hx hdx ne;have s0:=Oj (o:=HO.ins c.Draft dx []) (u:= .own x) hx hdx;exact ⟨x,dx,ws,d,rfl,Ag,ps.same s0,ok,λ H' B at'=>⟨rfl,h H' x (λ b o e=>B b o (s0 b o e) (AZ e hx)) hx at'⟩⟩
noncomputable def dDr (d:Dr):Dt:= .tup [dN d.sh,dN d.tr,dL d.th,dLL d.ti,dLL d.td,dS d.wa,dS d.we]
def ER (c:Cs):Sp:=λ vs H Q _=>∃ x d,vs=[.ref x]/\DrAt c.Draft H x d/\∀ H' p,Same H H'->H p=none->Rp H' (FN H) 3 (.ref p) (dDr d)->Q (.ref p) H'
noncomputable abbrev Dv:Stmt:=BY (top 28) 1
theorem HZ:FnScope ["self"] ["self"] (Ai Dv):=⟨rfl,rfl,rfl,by decide +kernel,rfl,by decide +kernel,by decide +kernel⟩
theorem Ie {f:Addr} {fd:FuncData} (F:Fun K "told" "Draft.told" Dv f fd) (T:Txt K mg c):FnOk P w K mg base CX0 1 f fd ["self"] (ER c):=by
  refine F.ok HZ (λ vs H Q E h=> ?_) (λ cdv A outer s H vs Q E hr h=> ?_)
  · obtain ⟨x,d,rfl,_⟩:=h;rfl
  · obtain ⟨x,d,rfl,⟨dx,v1,v2,v3,v4,v5,h0,h1,h2,h3,h4,h5⟩,k⟩:=h;obtain ⟨a1,rfl,e1,b1⟩:=Hg h1;obtain ⟨m2,a2,vs2,em2,rfl,e2,l2,b2,el2⟩:=HG h2;cases em2;obtain ⟨m3,a3,vs3,em3,rfl,e3,l3,b3,el3⟩:=HG h3;cases em3;obtain ⟨a4,rfl,e4,b4⟩:=Jt h4;obtain ⟨a5,rfl,e5,b5⟩:=Jt h5;rw [List.length_map] at l2 l3;refine ⟨_,(Ae (Al (Cj (Aa (B7 (K:=K) (pv 0) rfl) (Aa (B7 (K:=K) (pv 0) rfl) (Aa (Av (Er (K:=K)) rfl (T.own _ (by decide)) AF (Aa (B7 (K:=K) (pv 0) rfl) Ab)) (Aa (AA (ID (K:=K) (B7 (K:=K) (pv 0) rfl)) (λ _ _ _ _=>Ax) (λ _ _ _ _=>(Av (Er (K:=K)) rfl (T.own _ (by decide)) AF (Aa (pv 0) Ab)))) (Aa (AA (ID (K:=K) (B7 (K:=K) (pv 0) rfl)) (λ _ _ _ _=>Ax) (λ _ _ _ _=>(Av (Er (K:=K)) rfl (T.own _ (by decide)) AF (Aa (pv 0) Ab)))) (Aa (Av (Er (K:=K)) rfl (T.own _ (by decide)) AF (Aa (B7 (K:=K) (pv 0) rfl) Ab)) (Aa (Av (Er (K:=K)) rfl (T.own _ (by decide)) AF (Aa (B7 (K:=K) (pv 0) rfl) Ab)) Ab)))))))))),?_⟩;walk_at "w";refine ⟨_,_,_,_,_,rfl,h0,T.kd_Draft.cl,T.na_Draft_shafts,rfl,?_⟩;walk_at "w";refine ⟨_,_,_,_,_,rfl,h0,T.kd_Draft.cl,T.na_Draft_treadles,rfl,?_⟩;walk_at "w";refine ⟨_,_,_,_,_,rfl,h0,T.kd_Draft.cl,T.na_Draft_threading,rfl,?_⟩;walk_at "w";refine BP (SqT.of e1) λ p1 hp1=> ?_;walk_at "w";have s1:=Aj (o:=HO.lst (d.th.map nV)) hp1;have r1:Rp (upd H p1 (HO.lst (d.th.map nV))) (FN H) 2 (.ref p1) (dL d.th):=J3 Ag hp1 b1;generalize upd H p1 (HO.lst (d.th.map nV))=H1 at s1 r1 ⊢;refine ⟨_,_,_,_,_,rfl,s1 _ _ h0,T.kd_Draft.cl,T.na_Draft_ties,rfl,?_⟩;walk_at "w";refine ⟨a2,rfl,⟨_,SqT.of (s1 _ _ e2)⟩,λ D2 hD2=> ?_⟩;refine AL (m:=1) (G:=λ i=>dL (d.ti.getD i [])) (EA (SqT.of (s1 _ _ e2)) rfl) hD2 b2 ?_ ?_
    · intro i H' R hi s kk;have hi':i<d.ti.length:=by omega
      have r:=el2 i (by simpa using hi');rw [getD_map dT d.ti i .non [] hi'] at r;obtain ⟨b,eb,hb3,hb4⟩:=Hg r;rw [eb];walk_at "w";exact BP (SqT.of (s _ _ (s1 _ _ hb3))) λ q hq=>kk _ _ (Aj hq) (J3 Ag hq hb4)
    intro H2 ys2 s2 hl2 r2;rw [l2,NI] at r2;replace r2:Rp H2 (FN H) 2 (.ref D2) (dLL d.ti):=r2.imp λ a ha=>s1.free ha;have s02:=s1.trans s2;walk_at "w";refine ⟨_,_,_,_,_,rfl,s02 _ _ h0,T.kd_Draft.cl,T.na_Draft_treading,rfl,?_⟩;walk_at "w";refine ⟨a3,rfl,⟨_,SqT.of (s02 _ _ e3)⟩,λ D3 hD3=> ?_⟩;refine AL (m:=1) (G:=λ i=>dL (d.td.getD i [])) (EA (SqT.of (s02 _ _ e3)) rfl) hD3 b3 ?_ ?_
    · intro i H' R hi s kk;have hi':i<d.td.length:=by omega
      have r:=el3 i (by simpa using hi');rw [getD_map dT d.td i .non [] hi'] at r;obtain ⟨b,eb,hb3,hb4⟩:=Hg r;rw [eb];walk_at "w";exact BP (SqT.of (s _ _ (s02 _ _ hb3))) λ q hq=>kk _ _ (Aj hq) (J3 Ag hq hb4)
    intro H3 ys3 s3 hl3 r3;rw [l3,NI] at r3;replace r3:Rp H3 (FN H) 2 (.ref D3) (dLL d.td):=r3.imp λ a ha=>s02.free ha;have s03:=s02.trans s3;walk_at "w";refine ⟨_,_,_,_,_,rfl,s03 _ _ h0,T.kd_Draft.cl,T.na_Draft_warp,rfl,?_⟩;walk_at "w";refine BP (SqT.of (s03 _ _ e4)) λ p4 hp4=> ?_;walk_at "w";have s4:=Aj (o:=HO.lst (d.wa.map V.str)) hp4;have r4:Rp (upd H3 p4 (HO.lst (d.wa.map V.str))) (FN H) 2 (.ref p4) (dS d.wa):=NX Ag (s03.free hp4) b4;generalize upd H3 p4 (HO.lst (d.wa.map V.str))=H4 at s4 r4 ⊢;have s04:=s03.trans s4;refine ⟨_,_,_,_,_,rfl,s04 _ _ h0,T.kd_Draft.cl,T.na_Draft_weft,rfl,?_⟩;walk_at "w";refine BP (SqT.of (s04 _ _ e5)) λ p5 hp5=> ?_;walk_at "w";have s5:=Aj (o:=HO.lst (d.we.map V.str)) hp5;have r5:Rp (upd H4 p5 (HO.lst (d.we.map V.str))) (FN H) 2 (.ref p5) (dS d.we):=NX Ag (s04.free hp5) b5;generalize upd H4 p5 (HO.lst (d.we.map V.str))=H5 at s5 r5 ⊢;have s05:=s04.trans s5;intro p hp;have s6:=Aj (o:=HO.tup [nV d.sh,nV d.tr, .ref p1, .ref D2, .ref D3, .ref p4, .ref p5]) hp;refine k _ p (s05.trans s6) (s05.free hp) (LI Ag (.int _) (.int _) ?_ ?_ ?_ ?_ ?_)
    · exact (r1.same (s2.trans (s3.trans (s4.trans s5)))).same s6
    · exact (r2.same (s3.trans (s4.trans s5))).same s6
    · exact (r3.same (s4.trans s5)).same s6
    · exact (r4.same s5).same s6
    · exact r5.same s6
def EQ (c:Cs):Sp:=λ vs H Q _=>∃ x d,vs=[.ref x]/\DrAt c.Draft H x d/\Q (nV d.th.length) H
noncomputable abbrev DD:Stmt:=BY (top 28) 2
theorem Ih:FnScope ["self"] ["self"] (Ai DD):=⟨rfl,rfl,rfl,by decide +kernel,rfl,by decide +kernel,by decide +kernel⟩
theorem Ib {f:Addr} {fd:FuncData} (F:Fun K "ends" "Draft.ends" DD f fd) (T:Txt K mg c):FnOk P w K mg base CX0 1 f fd ["self"] (EQ c):=by
  refine F.ok Ih (λ vs H Q E h=> ?_) (λ cdv A outer s H vs Q E hr h=> ?_)
  · obtain ⟨x,d,rfl,_⟩:=h;rfl
  · obtain ⟨x,d,rfl,⟨dx,v1,v2,v3,v4,v5,h0,h1,h2,h3,h4,h5⟩,k⟩:=h;obtain ⟨a1,rfl,e1,b1⟩:=Hg h1;refine ⟨_,(Ae (Al (Ah (AC (K:=K)) rfl (T.own _ (by decide)) boot_len (Aa (B7 (K:=K) (pv 0) rfl) Ab)))),?_⟩;walk_at "w";refine ⟨_,_,_,_,_,rfl,h0,T.kd_Draft.cl,T.na_Draft_threading,rfl,?_⟩;walk_at "w";refine Fu (SqT.of e1) ?_;rw [List.length_map];exact k
noncomputable def CS (x k:Int):Int:=(x%1000000007+7919*k+13)*(x%1000000007+7919*k+13)%1000000007*48271%2147483647
def Bx:Sp:=λ vs H Q _=>∃ x k:Int,vs=[.int x, .int k]/\(0<=k/\k<=1000)/\Q (.int (CS x k)) H
noncomputable abbrev Do:Stmt:=top 59
theorem sc__law_mixed:FnScope ["_law_cell","_law_k"] ["_law_cell","_law_k"] (Ai Do):=⟨rfl,rfl,rfl,by decide +kernel,rfl,by decide +kernel,by decide +kernel⟩
theorem Ic {f:Addr} {fd:FuncData} (F:Fun K "_law_mixed" "_law_mixed" Do f fd) (T:Txt K mg c):FnOk P w K mg base CX0 1 f fd ["_law_cell","_law_k"] Bx:=by
  refine F.ok sc__law_mixed (λ vs H Q E h=> ?_) (λ cdv A outer s H vs Q E hr h=> ?_)
  · obtain ⟨x,k,rfl,_⟩:=h;rfl
  · obtain ⟨x,k,rfl,hk,q⟩:=h;refine ⟨_,(Ac (Am (i:=0) sc__law_mixed.nd rfl (Or.inl rfl) (Ak Ay (Ak Ay (Ak Be (pv 0) Af) (Ak EW Af (pv 1))) Af))
      (Ae (Al (Ak Be (Ak EW (Ak Be (Ak EW (pv 0) (pv 0)) Af) Af) Af)))),?_⟩
    have b1:=Int.emod_nonneg x (show (1000000007:Int)≠0 by decide);have b2:=Int.emod_lt_of_pos x (show (0:Int)<1000000007 by decide);walk_at "w";refine AR (by decide) ?_;walk_at "w";refine AR (.inl ⟨by decide,by decide⟩) ?_;walk_at "w";refine AR (.inl ⟨?_,?_⟩) ?_
    · show -(2 ^ 64)<x%1000000007+7919*k+13;omega
    · show x%1000000007+7919*k+13<2 ^ 64;omega
    walk_at "w";refine AR (by decide) ?_;walk_at "w";refine AR (.inr ⟨by decide,by decide⟩) ?_;walk_at "w";refine AR (by decide) ?_;exact q
noncomputable def Og (n:Nat) (f:Int):Nat:=max 1 (min 60 (Builtin.Range.rangeSize f (n:Nat) 2).toNat)
def EV (K:PySem.W.Frag):Sp:=λ vs H Q _=>∃ (a:Addr) (ns:List Int) (f:Int),vs=[.ref a, .int f]/\SqL K H a (ns.map V.int)/\ns.length<=63/\0<=f/\f<=1/\∀ H' p (ms:List Int),Same H H'->H p=none->H' p=some (.lst (ms.map V.int))->1<=ms.length->ms.length<=60/\ms.length<=ns.length+1/\ms.length=Og ns.length f->Q (.ref p) H'
theorem Q6 {f:Int} {n:Nat} {i:Nat} (f0:0<=f) (h:i<(Builtin.Range.rangeSize f (n:Nat) 2).toNat):f+i*2<n:=by
  unfold Builtin.Range.rangeSize at h;rw [if_pos (by decide)] at h;split at h
  · omega
  · simp at h
noncomputable abbrev DC:Stmt:=top 61
theorem sc__law_cells:FnScope ["_law_script","_law_first","_law_found"] ["_law_script","_law_first"] (Ai DC):=⟨rfl,rfl,rfl,by decide +kernel,rfl,by decide +kernel,by decide +kernel⟩
theorem HY {f:Addr} {fd:FuncData} (F:Fun K "_law_cells" "_law_cells" DC f fd) (T:Txt K mg c):FnOk P w K mg base CX0 1 f fd ["_law_script","_law_first"] (EV K):=by
  refine F.ok sc__law_cells (λ vs H Q E h=> ?_) (λ cdv A outer s H vs Q E hr h=> ?_)
  · obtain ⟨a,ns,f,rfl,_⟩:=h;rfl
  · obtain ⟨a,ns,f,rfl,sa,hn,f0,f1,k⟩:=h;have hu:=hr.units0;refine ⟨_,(Ac (Am (i:=2) sc__law_cells.nd rfl (Or.inl rfl) (A0 (C7 (K:=K)) (AA (Mf rfl (T.own _ (by decide)) (Aa (pv 1) (Aa (Ah (AC (K:=K)) rfl (T.own _ (by decide)) boot_len (Aa (pv 0) Ab)) (Aa Af Ab)))) (λ _ _ _ _=>Ax) (λ _ _ _ _=>(Ba (CI (K:=K)) (pv 1) (pv 0) (λ _ _=>rfl)))) Ca (AV Af)))
      (Ae (Al (Ak (Bw (K:=K)) (pv 2) (Ak JD (Aw (Aa (pv 1) Ab)) (Av NV rfl (T.own _ (by decide)) boot_int (Aa (A6 (Gh hu (K:=K)) (pv 2) (Aw Ab) (Aq _)) Ab))))))),?_⟩
    walk_at "w";refine Au sa ?_;walk_at "w";refine ⟨_,_,_,rfl,⟨by omega,by omega⟩,⟨by omega,by rw [List.length_map];omega⟩,⟨by decide,by decide⟩,by decide,λ D hD=> ?_⟩;rw [List.length_map];have hb:∀ i:Nat,i<(Builtin.Range.rangeSize f (ns.length:Nat) 2).toNat->f+i*2<ns.length:=λ i hi=>Q6 f0 hi;have hsz:(Builtin.Range.rangeSize f (ns.length:Nat) 2).toNat<=63:=by
      have:=NZ f (ns.length:Nat) 2 (by decide);omega
    have hce:Og ns.length f=max 1 (min 60 (Builtin.Range.rangeSize f (ns.length:Nat) 2).toNat):=rfl;generalize (Builtin.Range.rangeSize f (ns.length:Nat) 2).toNat=n at hb hsz hce ⊢;refine Gb (G:=λ i=>ns.getD (f+i*2).toNat 0) (Lk rfl) hD (by omega) ?_ ?_
    · intro i H' R hi s kk;have:=hb i hi;walk_at "w";refine Bu (SqS.same (tp:=false) sa s) (OZ (by omega) (by omega)) ?_;exact kk H' (Same.refl _)
    intro H1 s1 hl1;have hn1:n<=ns.length:=by
      rcases Nat.eq_zero_or_pos n with z | z
      · omega
      · have:=hb (n - 1) (by omega);omega
    have lms:((List.range n).map λ i:Nat=>ns.getD (f+i*2).toNat 0).length<=ns.length/\((List.range n).map λ i:Nat=>ns.getD (f+i*2).toNat 0).length=n:=by simpa using hn1
    generalize (List.range n).map (λ i:Nat=>ns.getD (f+i*2).toNat 0)=ms at hl1 lms;walk_at "w";refine BQ (SqL.of hl1) λ q hq=> ?_;rw [Lg (by decide), <-List.map_take];have s2:=Aj (o:=HO.lst ((ms.take (60:Int).toNat).map V.int)) hq;have h2:upd H1 q (HO.lst ((ms.take (60:Int).toNat).map V.int)) q=_:=Ag;have s12:=s1.trans s2;generalize upd H1 q (HO.lst ((ms.take (60:Int).toNat).map V.int))=H2 at s12 h2 ⊢;have hms:(ms.take (60:Int).toNat).length<=60/\(ms.take (60:Int).toNat).length<=ns.length/\(ms.take (60:Int).toNat).length=min 60 n:=by rw [List.length_take,lms.2];exact ⟨Nat.min_le_left _ _,Nat.le_trans (Nat.min_le_right _ _) hn1,rfl⟩
    generalize ms.take (60:Int).toNat=ts at h2 hms ⊢;walk_at "w";intro p hp;walk_at "w";have s3:=Aj (o:=HO.lst [V.int f]) hp;have h3:upd H2 p (HO.lst [V.int f]) p=some (.lst [V.int f]):=Ag;have s13:=s12.trans s3;replace h2:=s3 _ _ h2;generalize upd H2 p (HO.lst [V.int f])=H3 at s13 h2 h3 ⊢;intro p4 hp4;walk_at "w";have s4:=Aj (o:=HO.lst []) hp4;have s14:=s13.trans s4;replace h2:=s4 _ _ h2;replace h3:=s4 _ _ h3;have h4:upd H3 p4 (HO.lst []) p4=_:=Ag;generalize upd H3 p4 (HO.lst [])=H4 at s14 h2 h3 h4 ⊢;refine OI (bs:=[]) (SqL.of h2) (SqL.of h4) ?_;walk_at "w";refine ⟨_,rfl,?_⟩;have hb2:(0:Int)<=(if decide (ts=[])=true then 1 else 0)/\(if decide (ts=[])=true then (1:Int) else 0)<=1:=by split <;> decide
    refine JO h3 hb2.1 (by omega) (by simp) λ p5 hp5=> ?_;walk_at "w";have e5:(List.replicate (if decide (ts=[])=true then (1:Int) else 0).toNat [V.int f]).flatten=(if ts=[] then [f] else []).map V.int:=by
      by_cases z:ts=[]
      · simp [z]
      · simp [z]
    rw [e5];have s5:=Aj (o:=HO.lst ((if ts=[] then [f] else []).map V.int)) hp5;have h5:upd H4 p5 (HO.lst ((if ts=[] then [f] else []).map V.int)) p5=_:=Ag;replace h2:=s5 _ _ h2;have s15:=s14.trans s5;generalize upd H4 p5 (HO.lst ((if ts=[] then [f] else []).map V.int))=H5 at s15 h2 h5 ⊢;have hlen:1<=(ts++(if ts=[] then [f] else [])).length/\(ts++(if ts=[] then [f] else [])).length<=60/\(ts++(if ts=[] then [f] else [])).length<=ns.length+1/\(ts++(if ts=[] then [f] else [])).length=Og ns.length f:=by
      by_cases z:ts=[]
      · rw [z] at hms;simp [z,hce];simp at hms;omega
      · have:1<=ts.length:=by
          cases ts with
          | nil=>exact absurd rfl z
          | cons _ _=>simp
        simp [z];omega
    refine F3 (SqL.of h2) (SqL.of h5) (by have:=hlen.2.1;rw [List.length_append] at this;simp only [List.length_map];omega) λ p6 hp6=> ?_;rw [<-List.map_append];exact k _ p6 _ (s15.trans (Aj hp6)) (s15.free hp6) Ag hlen.1 hlen.2
noncomputable def G4 (m w:Nat):List Nat:=((List.range w).filter m.testBit).map (· + 1)
theorem Gp (p:Nat->Bool):∀ w,Rise w (((List.range w).filter p).map (· + 1)):=by
  intro w;have key:∀ w,(∀ n∈((List.range w).filter p).map (· + 1),1<=n/\n<=w)/\(((List.range w).filter p).map (· + 1)).Pairwise (· < ·):=by
    intro w;refine ⟨λ n hn=> ?_,?_⟩
    · obtain ⟨k,hk,rfl⟩:=List.mem_map.mp hn;have:=List.mem_range.mp (List.mem_filter.mp hk).1;omega
    · rw [List.pairwise_map];exact ((List.pairwise_lt_range).filter p).imp (λ h=>Nat.succ_lt_succ h)
  obtain ⟨k1,k2⟩:=key w;generalize ((List.range w).filter p).map (· + 1)=ns at k1 k2;intro i hi;have e:ns.getD i 0=ns[i]:=by simp [List.getD_eq_getElem?_getD,hi]
  have m1:=k1 _ (List.getElem_mem hi);rw [e];refine ⟨?_,m1.2⟩;cases i with
  | zero=>simpa using m1.1
  | succ i=>
    have e2:(0::ns).getD (i+1) 0=ns[i]:=by
      show ns.getD i 0=ns[i];simp [List.getD_eq_getElem?_getD,(show i<ns.length by omega)]
    rw [e2];exact (List.pairwise_iff_getElem.mp k2) i (i+1) (by omega) hi (by omega)
def DJ:Sp:=λ vs H Q _=>∃ m w:Nat,vs=[nV m,nV w]/\w<=100/\∀ H' p,Same H H'->H p=none->H' p=some (.lst ((G4 m w).map nV))->Q (.ref p) H'
theorem On (m i:Nat):decide ((((m >>> i) &&& 1:Nat):Int)=1)=m.testBit i:=by
  have h:((m >>> i) &&& 1)=(m.testBit i).toNat:=by
    rw [Nat.and_one_is_mod,Nat.shiftRight_eq_div_pow,MM.bit_div]
  rw [h];cases m.testBit i <;> rfl
noncomputable abbrev Ct:Stmt:=top 62
theorem GH:FnScope ["_law_mask","_law_most"] ["_law_mask","_law_most"] (Ai Ct):=⟨rfl,rfl,rfl,by decide +kernel,rfl,by decide +kernel,by decide +kernel⟩
theorem Gz {f:Addr} {fd:FuncData} (F:Fun K "_law_numbers" "_law_numbers" Ct f fd) (T:Txt K mg c):FnOk P w K mg base CX0 1 f fd ["_law_mask","_law_most"] DJ:=by
  refine F.ok GH (λ vs H Q E h=> ?_) (λ cdv A outer s H vs Q E hr h=> ?_)
  · obtain ⟨m,w,rfl,_⟩:=h;rfl
  · obtain ⟨m,w,rfl,hw,k⟩:=h;refine ⟨_,(Ae (Al (AA (Ey rfl (T.own _ (by decide)) (Aa (pv 1) Ab)) (λ _ _ _ _=>(Pk (An BH (Ak QJ (Ak Qj (pv 1) (pv 0)) Af) Af (Aq _)))) (λ _ _ _ _=>(Ak Ay (pv 0) Af))))),?_⟩;walk_at "w";refine ⟨_,rfl,by omega,by omega,λ D hD=> ?_⟩;rw [Int.toNat_natCast];refine K2 (p:=m.testBit) (G:=λ i=>(i:Int)+1) (Hn rfl) hD (by omega) ?_ ?_ ?_
    · intro i H' R hi s kk;walk_at "w";refine AR (by show (0:Int)<=_;omega) ?_;walk_at "w";have e:((m:Nat):Int) / 2 ^ (((i:Nat):Int)).toNat=((m >>> i:Nat):Int):=by
        rw [Int.toNat_natCast,Nat.shiftRight_eq_div_pow];push_cast;rfl
      rw [e,show (1:Int)=((1:Nat):Int) from rfl,bA];walk_at "w";rw [show (((1:Nat):Int))=(1:Int) from rfl,On];exact kk H' (Same.refl _)
    · intro i H' R hi hp s kk;walk_at "w";exact kk H' (Same.refl _)
    · intro H' s hl;refine k H' D s hD ?_;rw [hl];unfold G4;rw [List.map_map,List.map_map];rfl
def BI:Nat->Sp
  | 0=>λ _ _ _ _=>False
  | n+1=>λ vs H Q _=>∃ v d,vs=[v]/\Rp H FT n v d/\∀ H' r,Same H H'->Rp H' (FN H) n r d->Q r H'
noncomputable abbrev BZ:Stmt:=top 64
theorem Hw:FnScope ["_law_thing"] ["_law_thing"] (Ai BZ):=⟨rfl,rfl,rfl,by decide +kernel,rfl,by decide +kernel,by decide +kernel⟩
theorem GL {n:Nat} {f:Addr} {fd:FuncData} (F:Fun K "_law_copied" "_law_copied" BZ f fd) (T:Txt K mg c) (c__law_copied:CallF P w K mg base "_law_copied" (n+1) ["_law_thing"] (BI n)):FnOk P w K mg base CX0 (n+2) f fd ["_law_thing"] (BI (n+1)):=by
  refine F.ok Hw (λ vs H Q E h=> ?_) (λ cdv A outer s H vs Q E hr h=> ?_)
  · obtain ⟨v,d,rfl,_⟩:=h;rfl
  · obtain ⟨v,d,rfl,rv,k⟩:=h;refine ⟨_,(Ac (AB (AT (Ah (A8 (K:=K)) rfl (T.own _ (by decide)) boot_isinstance (Aa (pv 0) (Aa (Bt rfl (T.own _ (by decide)) AF) Ab)))) (Ae (Al (AA (Bi (K:=K) (pv 0)) (λ _ _ _ _=>Ax) (λ _ _ _ _=>(Ad c__law_copied hr (Aa (pv 0) Ab)))))) Ar)
      (Ac (AB (AT (Ah (A8 (K:=K)) rfl (T.own _ (by decide)) boot_isinstance (Aa (pv 0) (Aa (Bt rfl (T.own _ (by decide)) AI) Ab)))) (Ae (Al (Av (CN (K:=K)) rfl (T.own _ (by decide)) AI (Aa (AA (ID (K:=K) (pv 0)) (λ _ _ _ _=>Ax) (λ _ _ _ _=>(Ad c__law_copied hr (Aa (pv 0) Ab)))) Ab)))) Ar)
      (Ae (Al (pv 0))))),?_⟩
    walk_at "w";refine AN rv.ty (GY d) ?_;walk_at "w";refine HW (λ hc=> ?_) (λ hc=> ?_)
    · obtain ⟨m,a,xs,rfl,rfl,sa,la,ba,ea⟩:=rv.seq (K:=K) (by rw [hc];rfl);have ed:d= .lst (A7 d):=by cases d <;> first | rfl | cases hc
      have et:B9 d=false:=by cases d <;> first | rfl | cases hc
      rw [et] at sa;walk_at "w";refine ⟨a,rfl,⟨_,sa⟩,λ D hD=> ?_⟩;refine AL (m:=m) (G:=λ i=>(A7 d).getD i .non) (AH sa rfl) hD ba ?_ ?_
      · intro i H' R hi s1 kk;walk_at "w";have hd:(A7 d)[i]?=some ((A7 d).getD i .non):=by
          rw [List.getD_eq_getElem?_getD,List.getElem?_eq_getElem (by omega)];rfl
        have hx:xs[i]?=some (xs.getD i .non):=by
          rw [List.getD_eq_getElem?_getD,List.getElem?_eq_getElem hi];rfl
        exact ⟨_,_,rfl,(ea i _ _ hx hd).same s1,kk⟩
      · intro H' ys s1 hl r;have e:(List.range xs.length).map (λ i=>(A7 d).getD i .non)=A7 d:=by
          rw [la];exact (Bq id (A7 d) .non).trans (List.map_id _)
        rw [e, <-ed] at r;exact k H' _ s1 r
    · walk_at "w";refine AN rv.ty (FG d) ?_;walk_at "w";refine HW (λ hc2=> ?_) (λ hc2=> ?_)
      · obtain ⟨m,a,xs,rfl,rfl,sa,la,ba,ea⟩:=rv.seq (K:=K) (by rw [hc2,Bool.or_true]);have ed:d= .tup (A7 d):=by cases d <;> first | rfl | cases hc2
        rw [hc2] at sa;walk_at "w";refine ⟨a,rfl,⟨_,sa⟩,λ D hD=> ?_⟩;refine AL (m:=m) (G:=λ i=>(A7 d).getD i .non) (EA sa rfl) hD ba ?_ ?_
        · intro i H' R hi s1 kk;walk_at "w";have hd:(A7 d)[i]?=some ((A7 d).getD i .non):=by
            rw [List.getD_eq_getElem?_getD,List.getElem?_eq_getElem (by omega)];rfl
          have hx:xs[i]?=some (xs.getD i .non):=by
            rw [List.getD_eq_getElem?_getD,List.getElem?_eq_getElem hi];rfl
          exact ⟨_,_,rfl,(ea i _ _ hx hd).same s1,kk⟩
        · intro H' ys s1 hl r;have e:(List.range xs.length).map (λ i=>(A7 d).getD i .non)=A7 d:=by
            rw [la];exact (Bq id (A7 d) .non).trans (List.map_id _)
          rw [e] at r;walk_at "w";refine B1 (SqL.of hl) λ l hl2=> ?_;have r2:=r.tupd hl hl2;rw [<-ed] at r2;exact k _ _ (s1.trans (Aj hl2)) r2
      · walk_at "w";refine k H v (Same.refl H) ?_;have hs:(DG d||B9 d)=false:=by rw [hc,hc2];rfl
        cases rv with
        | non=>exact .non
        | bl b=>exact .bl b
        | int i=>exact .int i
        | str z=>exact .str z
        | lst _ _ _ _ _=>cases hs
        | tup _ _ _ _=>cases hs
theorem Eb {f:Addr} {fd:FuncData} (D:DefAt K mg "_law_copied" BZ ["_law_thing"] f fd) (T:Txt K mg c):∀ n,FnOk P w K mg base CX0 (n+1) f fd ["_law_thing"] (BI n)
  | 0=>⟨λ _ _ _ _ h=>h.elim,λ _ _ _ _ _ _ _ _ _ _ _ _ _ h=>h.elim⟩
  | n+1=>GL D.fn T (D.call (Eb D T n))
noncomputable abbrev Ru (i:Int):Str:=⟨#[97+i.toNat]⟩
theorem QK:∀ j:Nat,j<26->("abcdefghijklmnopqrstuvwxyz":Str).cps.toList[j]?=some (97+j):=by decide +kernel
theorem Mc {i:Int} (h0:0<=i) (h1:i<26):atI ("abcdefghijklmnopqrstuvwxyz":Str).cps.toList i=some (97+i.toNat):=by
  obtain ⟨j,rfl⟩:∃ j:Nat,i=j:=⟨i.toNat,by omega⟩;rw [Int.toNat_natCast];exact AQ (QK j (by omega))
theorem Pm:∀ j:Nat,j<26->((⟨#[97+j]⟩:Str).length == 1&& !(Builtin.Str.occurrences colS ⟨#[97+j]⟩ 0 colS.length 1).isEmpty)=true:=by decide +kernel
theorem NS {i:Int} (h0:0<=i) (h1:i<26):Hv (Ru i):=by
  have h:=Pm i.toNat (by omega);simp only [Bool.and_eq_true,beq_iff_eq] at h;exact ⟨h.1,h.2⟩
theorem Ke (s:Nat):(0:Int)<1*2 ^ ((s:Nat):Int).toNat:=by
  rw [Int.toNat_natCast,J7];have:=Nat.two_pow_pos s;omega
theorem Lz (x:Int) (s:Nat):x%(1*2 ^ ((s:Nat):Int).toNat)=(((x%(2 ^ s:Nat)).toNat:Nat):Int):=by
  rw [Int.toNat_natCast,J7];have hp:=Nat.two_pow_pos s;have:=Int.emod_nonneg x (show ((2 ^ s:Nat):Int)≠0 by omega);omega
def ES (K:PySem.W.Frag):Sp:=λ vs H Q _=>∃ (a:Addr) (ns:List Int) (m:Nat),vs=[.ref a,nV m]/\SqL K H a (ns.map V.int)/\ns.length<=63/\1<=m/\m<=16/\∀ H' p d,Same H H'->H p=none->Rp H' (FN H) 3 (.ref p) (dDr d)->DrOk d->Q (.ref p) H'
noncomputable abbrev Df:Stmt:=top 63
theorem sc__law_draft:FnScope ["_law_script","_law_most","_law_whole","_law_shafts","_law_treadles","_law_letters","_law_ends","_law_picks","_law_ties","_law_treading","_law_warp","_law_weft"] ["_law_script","_law_most"] (Ai Df):=⟨rfl,rfl,rfl,by decide +kernel,rfl,by decide +kernel,by decide +kernel⟩
theorem HM {f:Addr} {fd:FuncData} (F:Fun K "_law_draft" "_law_draft" Df f fd) (T:Txt K mg c) (c__law_mixed:CallF P w K mg base "_law_mixed" 1 ["_law_cell","_law_k"] Bx) (c__law_cells:CallF P w K mg base "_law_cells" 1 ["_law_script","_law_first"] (EV K)) (c__law_numbers:CallF P w K mg base "_law_numbers" 1 ["_law_mask","_law_most"] DJ):FnOk P w K mg base CX0 2 f fd ["_law_script","_law_most"] (ES K):=by
  refine F.ok sc__law_draft (λ vs H Q E h=> ?_) (λ cdv A outer s H vs Q E hr h=> ?_)
  · obtain ⟨a,ns,m,rfl,_⟩:=h;rfl
  · obtain ⟨a,ns,m,rfl,sa,hn,m1,m2,k⟩:=h;refine ⟨_,(Ac (Am (i:=2) sc__law_draft.nd rfl (Or.inr rfl) (Ah (Qa (K:=K)) rfl (T.own _ (by decide)) boot_sum (Aa (Kl (K:=K) (LU (K:=K) rfl (T.own _ (by decide)) (Aa (pv 0) Ab)) (λ _ _ _ _=>Ax) (λ _ _ _ _=>(Ak EW (Ak Be (pv 1) Af) (Ak Ay (pv 0) Af)))) Ab)))
      (Ac (Am (i:=3) sc__law_draft.nd rfl (Or.inr rfl) (Ak Ay Af (Ak Be (Ad c__law_mixed hr (Aa (pv 2) (Aa Af Ab))) (pv 1))))
      (Ac (Am (i:=4) sc__law_draft.nd rfl (Or.inr rfl) (Ak Ay Af (Ak Be (Ad c__law_mixed hr (Aa (pv 2) (Aa Af Ab))) (pv 1))))
      (Ac (Am (i:=5) sc__law_draft.nd rfl (Or.inr rfl) Ao)
      (Ac (Am (i:=6) sc__law_draft.nd rfl (Or.inl rfl) (Ad c__law_cells hr (Aa (pv 0) (Aa Af Ab))))
      (Ac (Am (i:=7) sc__law_draft.nd rfl (Or.inl rfl) (Ad c__law_cells hr (Aa (pv 0) (Aa Af Ab))))
      (Ac (Cu (i:=8) sc__law_draft.nd rfl (Or.inl rfl) (Ey rfl (T.own _ (by decide)) (Aa (pv 4) Ab)) (λ _ _ _ _=>Ax) (λ _ _ _ _=>(Ad c__law_numbers hr (Aa (Ak Be (Ad c__law_mixed hr (Aa (pv 2) (Aa (Ak Ay Af (pv 0)) Ab))) (Ak NC Af (pv 1))) (Aa (pv 1) Ab)))))
      (Ac (Cu (i:=9) sc__law_draft.nd rfl (Or.inl rfl) (Bi (K:=K) (pv 7)) (λ _ _ _ _=>Ax) (λ _ _ _ _=>(Ad c__law_numbers hr (Aa (Ak Be (pv 0) (Ak NC Af (pv 1))) (Aa (pv 1) Ab)))))
      (Ac (AB (An BH (Ak Be (Ad c__law_mixed hr (Aa (pv 2) (Aa Af Ab))) Af) Af (Aq _)) (Ae (Cu (i:=9) sc__law_draft.nd rfl (Or.inl rfl) (Bi (K:=K) (pv 7)) (λ _ _ _ _=>Ax) (λ _ _ _ _=>(Aw (Aa (Ak Ay Af (Ak Be (pv 0) (pv 1))) Ab))))) Ar)
      (Ac (Cu (i:=10) sc__law_draft.nd rfl (Or.inl rfl) (Bi (K:=K) (pv 6)) (λ _ _ _ _=>Ax) (λ _ _ _ _=>(Ba KY (pv 1) (Ak Be (Ak Ci (pv 0) Af) (Ak Ay Af (Ak Be (Ad c__law_mixed hr (Aa (pv 2) (Aa Af Ab))) Af))) (λ _ _=>rfl))))
      (Ac (Cu (i:=11) sc__law_draft.nd rfl (Or.inl rfl) (Bi (K:=K) (pv 7)) (λ _ _ _ _=>Ax) (λ _ _ _ _=>(Ba KY (pv 1) (Ak Be (Ak Ci (pv 0) Af) (Ak Ay Af (Ak Be (Ad c__law_mixed hr (Aa (pv 2) (Aa Af Ab))) Af))) (λ _ _=>rfl))))
      (Ae (Al (Cj (Aa (pv 3) (Aa (pv 4) (Aa (AA (Bi (K:=K) (pv 6)) (λ _ _ _ _=>Ax) (λ _ _ _ _=>(Ak Be (pv 0) (Ak Ay (pv 1) Af)))) (Aa (pv 8) (Aa (pv 9) (Aa (pv 10) (Aa (pv 11) Ab))))))))))))))))))))),?_⟩
    walk_at "w";refine ⟨a,rfl,⟨_,sa⟩,λ D0 hD0=> ?_⟩;refine Gb (G:=λ i=>ns.getD i 0%1000000007*((i:Int)+1)) (NK sa rfl rfl) hD0 (by rw [List.length_map];omega) ?_ ?_
    · intro i H' R hi s kk;have b1:=Int.emod_nonneg (ns.getD i 0) (show (1000000007:Int)≠0 by decide);have b2:=Int.emod_lt_of_pos (ns.getD i 0) (show (0:Int)<1000000007 by decide);rw [C6 hi];walk_at "w";refine AR (by decide) ?_;walk_at "w";refine AR (.inl ⟨by omega,by omega⟩) ?_;exact kk H' (Same.refl _)
    intro H1 s1 hl1;walk_at "w";refine N6 (SqL.of hl1) ?_;generalize ((List.range (ns.map V.int).length).map λ i:Nat=>ns.getD i 0%1000000007*((i:Int)+1)).sum=W;walk_at "w";refine ⟨W,1,rfl,⟨by decide,by decide⟩,?_⟩;walk_at "w";refine AR (by show (0:Int)<(m:Nat);omega) ?_;walk_at "w";obtain ⟨sN,es,sN1,sN2⟩:∃ s:Nat,1+CS W 1%(m:Nat)=(s:Nat)/\1<=s/\s<=16:=by
      have h0:=Int.emod_nonneg (CS W 1) (show ((m:Nat):Int)≠0 by omega);have h1:=Int.emod_lt_of_pos (CS W 1) (show (0:Int)<(m:Nat) by omega);exact ⟨(1+CS W 1%(m:Nat)).toNat,by omega,by omega,by omega⟩
    rw [es];refine ⟨W,2,rfl,⟨by decide,by decide⟩,?_⟩;walk_at "w";refine AR (by show (0:Int)<(m:Nat);omega) ?_;walk_at "w";obtain ⟨tN,et,tN1,tN2⟩:∃ s:Nat,1+CS W 2%(m:Nat)=(s:Nat)/\1<=s/\s<=16:=by
      have h0:=Int.emod_nonneg (CS W 2) (show ((m:Nat):Int)≠0 by omega);have h1:=Int.emod_lt_of_pos (CS W 2) (show (0:Int)<(m:Nat) by omega);exact ⟨(1+CS W 2%(m:Nat)).toNat,by omega,by omega,by omega⟩
    rw [et];refine ⟨a,ns,0,rfl,s1.seq sa,hn,by decide,by decide,λ H2 pE eE s2 hpE hE lE1 lE2=> ?_⟩;walk_at "w";have s02:=s1.trans s2;refine ⟨a,ns,1,rfl,s02.seq sa,hn,by decide,by decide,λ H3 pP eP s3 hpP hP lP1 lP2=> ?_⟩;walk_at "w";have s03:=s02.trans s3;replace hE:=s3 _ _ hE;refine ⟨_,rfl,by omega,by omega,λ D4 hD4=> ?_⟩;rw [Int.toNat_natCast];refine AL (m:=1) (G:=λ i=>dL (G4 (CS W (3+(i:Int))%(2 ^ sN:Nat)).toNat sN)) (Hn rfl) hD4 (by omega) ?_ ?_
    · intro i H' R hi s kk;walk_at "w";refine ⟨W,_,rfl,⟨by omega,by omega⟩,?_⟩;walk_at "w";refine AR ⟨by omega,by omega,by decide⟩ ?_;walk_at "w";refine AR (Ke sN) ?_;walk_at "w";rw [Lz];exact ⟨_,sN,rfl,by omega,λ H4 p4 s4 hp4 h4=>kk H4 _ s4 (J3 h4 hp4 (by unfold G4;rw [List.length_map];exact Nat.le_trans (List.length_filter_le _ _) (by simp;omega)))⟩
    intro H4 ys4 s4 hl4 r4;rw [Jz] at r4;have s04:=s03.trans s4;replace r4:Rp H4 (FN H) 2 (.ref D4) _:=r4.imp λ a ha=>s03.free ha;replace hE:=s4 _ _ hE;replace hP:=s4 _ _ hP;generalize eTI:((List.range tN).map λ i:Nat=>G4 (CS W (3+(i:Int))%(2 ^ sN:Nat)).toNat sN)=TI at r4;have lTI:TI.length=tN:=by rw [<-eTI];simp
    have rTI:∀ l∈TI,Rise sN l:=λ l hl=>by
      rw [<-eTI] at hl;obtain ⟨i,_,rfl⟩:=List.mem_map.mp hl;exact Gp _ sN
    walk_at "w";refine ⟨pP,rfl,⟨_,SqL.of hP⟩,λ D5 hD5=> ?_⟩;refine AL (m:=1) (G:=λ i=>dL (G4 (eP.getD i 0%(2 ^ tN:Nat)).toNat tN)) (AH (SqL.of hP) rfl) hD5 (by rw [List.length_map];omega) ?_ ?_
    · intro i H' R hi s kk;rw [C6 hi];walk_at "w";refine AR ⟨by omega,by omega,by decide⟩ ?_;walk_at "w";refine AR (Ke tN) ?_;walk_at "w";rw [Lz];exact ⟨_,tN,rfl,by omega,λ H4 p4 s4 hp4 h4=>kk H4 _ s4 (J3 h4 hp4 (by unfold G4;rw [List.length_map];exact Nat.le_trans (List.length_filter_le _ _) (by simp;omega)))⟩
    intro H5 ys5 s5 hl5 r5;rw [List.length_map,Jz] at r5;have s05:=s04.trans s5;replace r5:Rp H5 (FN H) 2 (.ref D5) _:=r5.imp λ a ha=>s04.free ha;replace r4:=r4.same s5;replace hE:=s5 _ _ hE;replace hP:=s5 _ _ hP;walk_at "v";refine ifJ (λ σ' H6=>∃ v9 TD,σ'=[some (.ref a),some (nV m),some (.int W),some (nV sN),some (nV tN),some (.str "abcdefghijklmnopqrstuvwxyz"),some (.ref pE),some (.ref pP),some (.ref D4),some v9,none,none]/\Same H5 H6/\Rp H6 (FN H) 2 v9 (dLL TD)/\TD.length=eP.length/\∀ l∈TD,Rise tN l) ?_ (λ key=> ?_)
    · rintro σ' H6 ⟨v9,TD,rfl,s6,r9,lTD,rTD⟩;have s06:=s05.trans s6;replace r4:=r4.same s6;replace hE:=s6 _ _ hE;replace hP:=s6 _ _ hP;walk_at "w";refine ⟨pE,rfl,⟨_,SqL.of hE⟩,λ D7 hD7=> ?_⟩;have bm:∀ k:Int,(0:Int)<1+CS W k%26/\1+CS W k%26<=26:=λ k=>by
        have h0:=Int.emod_nonneg (CS W k) (show (26:Int)≠0 by decide);have h1:=Int.emod_lt_of_pos (CS W k) (show (0:Int)<26 by decide);omega
      have bq:∀ (x k:Int),0<=x%(1+CS W k%26)/\x%(1+CS W k%26)<26:=λ x k=>by
        have h:=bm k;have h0:=Int.emod_nonneg x (show (1+CS W k%26)≠0 by omega);have h1:=Int.emod_lt_of_pos x h.1;omega
      refine AL (m:=0) (G:=λ i=> .str (Ru (eE.getD i 0 / 17%(1+CS W 41%26)))) (AH (SqL.of hE) rfl) hD7 (by rw [List.length_map];omega) ?_ ?_
      · intro i H' R hi s kk;rw [C6 hi];walk_at "w";refine AR ⟨by decide,by decide⟩ ?_;walk_at "w";refine ⟨W,41,rfl,⟨by decide,by decide⟩,?_⟩;walk_at "w";refine AR (by decide) ?_;walk_at "w";refine AR (bm 41).1 ?_;have:=bq (eE.getD i 0 / 17) 41;refine KN (by decide) (Mc this.1 this.2) ?_;exact kk H' _ (Same.refl _) (.str _)
      intro H7 ys7 s7 hl7 r7;rw [List.length_map,KM] at r7;have s07:=s06.trans s7;replace r7:Rp H7 (FN H) 2 (.ref D7) _:=(r7.imp λ a ha=>s06.free ha).up (by decide);replace r4:=r4.same s7;replace r9:=r9.same s7;replace hE:=s7 _ _ hE;replace hP:=s7 _ _ hP;walk_at "w";refine ⟨pP,rfl,⟨_,SqL.of hP⟩,λ D8 hD8=> ?_⟩;refine AL (m:=0) (G:=λ i=> .str (Ru (eP.getD i 0 / 70000%(1+CS W 42%26)))) (AH (SqL.of hP) rfl) hD8 (by rw [List.length_map];omega) ?_ ?_
      · intro i H' R hi s kk;rw [C6 hi];walk_at "w";refine AR ⟨by decide,by decide⟩ ?_;walk_at "w";refine ⟨W,42,rfl,⟨by decide,by decide⟩,?_⟩;walk_at "w";refine AR (by decide) ?_;walk_at "w";refine AR (bm 42).1 ?_;have:=bq (eP.getD i 0 / 70000) 42;refine KN (by decide) (Mc this.1 this.2) ?_;exact kk H' _ (Same.refl _) (.str _)
      intro H8 ys8 s8 hl8 r8;rw [List.length_map,KM] at r8;have s08:=s07.trans s8;replace r8:Rp H8 (FN H) 2 (.ref D8) _:=(r8.imp λ a ha=>s07.free ha).up (by decide);replace r4:=r4.same s8;replace r9:=r9.same s8;replace r7:=r7.same s8;replace hE:=s8 _ _ hE;walk_at "w";refine ⟨pE,rfl,⟨_,SqL.of hE⟩,λ DA hDA=> ?_⟩;refine AL (m:=0) (G:=λ i=>dN (eE.getD i 0%((sN+1:Nat):Int)).toNat) (AH (SqL.of hE) rfl) hDA (by rw [List.length_map];omega) ?_ ?_
      · intro i H' R hi s kk;rw [C6 hi];walk_at "w";refine AR (by show (0:Int)<_;omega) ?_;have h0:=Int.emod_nonneg (eE.getD i 0) (show ((sN:Nat):Int)+1≠0 by omega);have e:eE.getD i 0%(((sN:Nat):Int)+1)=(((eE.getD i 0%((sN+1:Nat):Int)).toNat:Nat):Int):=by
          rw [show ((sN+1:Nat):Int)=((sN:Nat):Int)+1 by omega];omega
        rw [e];exact kk H' _ (Same.refl _) (.int _)
      intro HA ysA sA hlA rA;rw [List.length_map,QD] at rA;have s0A:=s08.trans sA;replace rA:Rp HA (FN H) 2 (.ref DA) _:=(rA.imp λ a ha=>s08.free ha).up (by decide);replace r4:=r4.same sA;replace r9:=r9.same sA;replace r7:=r7.same sA;replace r8:=r8.same sA;walk_at "w";intro p hp;have sB:=Aj (o:=HO.tup [nV sN,nV tN, .ref DA, .ref D4,v9, .ref D7, .ref D8]) hp;refine k _ p ⟨sN,tN,_,TI,TD,_,_⟩ (s0A.trans sB) (s0A.free hp) (LI Ag (.int _) (.int _) (rA.same sB) (r4.same sB) (r9.same sB) (r7.same sB) (r8.same sB)) ?_;exact {
        s1:=sN1,s2:=sN2,t1:=tN1,t2:=tN2
        h1:=by simpa using lE1
        h2:=by simpa using lE2.1
        hs:=λ n hn=>by
          obtain ⟨i,_,rfl⟩:=List.mem_map.mp hn;have h0:=Int.emod_nonneg (eE.getD i 0) (show ((sN+1:Nat):Int)≠0 by omega);have h1:=Int.emod_lt_of_pos (eE.getD i 0) (show (0:Int)<((sN+1:Nat):Int) by omega);show _<=sN;omega
        il:=lTI,ir:=rTI
        p1:=by show 1<=TD.length;omega
        p2:=by show TD.length<=60;omega
        pr:=rTD
        wl:=by simp
        wc:=λ z hz=>by
          obtain ⟨i,_,rfl⟩:=List.mem_map.mp hz;exact NS (bq _ 41).1 (bq _ 41).2
        fl:=by simp [lTD]
        fc:=λ z hz=>by
          obtain ⟨i,_,rfl⟩:=List.mem_map.mp hz;exact NS (bq _ 42).1 (bq _ 42).2 }
    · walk_at "w";refine ⟨W,40,rfl,⟨by decide,by decide⟩,?_⟩;walk_at "w";refine AR (by decide) ?_;walk_at "w";refine A5 (λ h0=> ?_) (λ h0=> ?_)
      · walk_at "w";refine ⟨pP,rfl,⟨_,SqL.of hP⟩,λ D6 hD6=> ?_⟩;refine AL (m:=1) (G:=λ i=>dL [(1+eP.getD i 0%(tN:Nat)).toNat]) (AH (SqL.of hP) rfl) hD6 (by rw [List.length_map];omega) ?_ ?_
        · intro i H' R hi s kk;rw [C6 hi];walk_at "w";refine AR (by show (0:Int)<(tN:Nat);omega) ?_;walk_at "w";intro q hq;have h0:=Int.emod_nonneg (eP.getD i 0) (show ((tN:Nat):Int)≠0 by omega);refine kk _ _ (Aj hq) (J3 ?_ hq (by simp));rw [Ag];show some (HO.lst [V.int (1+eP.getD i 0%(tN:Nat))])=some (HO.lst [V.int (((1+eP.getD i 0%(tN:Nat)).toNat:Nat):Int)]);congr 4;omega
        · intro H6 ys6 s6 hl6 r6;rw [List.length_map,Jz (λ i=>[(1+eP.getD i 0%(tN:Nat)).toNat])] at r6;refine Jk ?_;refine key _ _ ⟨_,_,rfl,s6,r6.imp λ a ha=>s05.free ha,by simp,λ l hl=> ?_⟩;obtain ⟨i,_,rfl⟩:=List.mem_map.mp hl;have h0:=Int.emod_nonneg (eP.getD i 0) (show ((tN:Nat):Int)≠0 by omega);have h1:=Int.emod_lt_of_pos (eP.getD i 0) (show (0:Int)<(tN:Nat) by omega);intro j hj;have hj:j=0:=by simpa using hj
          subst hj;show 0+1<=(1+eP.getD i 0%(tN:Nat)).toNat/\(1+eP.getD i 0%(tN:Nat)).toNat<=tN;omega
      · refine LF ?_;refine key _ _ ⟨_,_,rfl,Same.refl _,r5,by simp,λ l hl=> ?_⟩;obtain ⟨i,_,rfl⟩:=List.mem_map.mp hl;exact Gp _ tN
inductive Nst (H:Hp) (F:Addr->Prop) (T:Nat):Nat->V->Prop where
  | non {n:Nat}:Nst H F T n .non
  | bl {n:Nat} (b:Bool):Nst H F T n (.bl b)
  | int {n:Nat} (i:Int):Nst H F T n (.int i)
  | str {n:Nat} (z:Str):Nst H F T n (.str z)
  | lst {n:Nat} {a:Addr} {us:List V} {k:Nat} (h:H a=some (.lst (us++List.replicate k (.int 7)))) (f:F a) (l:us.length<=100) (t:k<=T) (e:∀ v∈us,Nst H F T n v):Nst H F T (n+1) (.ref a)
  | tup {n:Nat} {a:Addr} {us:List V} (h:H a=some (.tup us)) (l:us.length<=100) (e:∀ v∈us,Nst H F T n v):Nst H F T (n+1) (.ref a)
noncomputable def cN:Nat->Nat
  | 0=>0
  | n+1=>100*cN n+1
noncomputable def cV (n:Nat):V->Nat
  | .ref _=>cN n
  | _=>0
theorem PZ (n:Nat) (v:V):cV n v<=cN n:=by
  cases v <;> first | exact Nat.le_refl _ | exact Nat.zero_le _
def Ap (F:Addr->Prop) (k:Nat) (H H':Hp):Prop:=∀ b o,H b=some o->H' b=some o\/(F b/\∃ xs j,o= .lst xs/\j<=k/\H' b=some (.lst (xs++List.replicate j (.int 7))))
theorem Ap.of {F:Addr->Prop} {k:Nat} {H H':Hp} (s:Same H H'):Ap F k H H':=λ b o e=> .inl (s b o e)
theorem Ap.trans {F:Addr->Prop} {k j:Nat} {H H1 H2:Hp} (h:Ap F k H H1) (g:Ap F j H1 H2):Ap F (k+j) H H2:=by
  intro b o e;rcases h b o e with e1 | ⟨f,xs,i,rfl,hi,e1⟩
  · rcases g b o e1 with e2 | ⟨f,xs,i,rfl,hi,e2⟩
    · exact .inl e2
    · exact .inr ⟨f,xs,i,rfl,by omega,e2⟩
  · rcases g b _ e1 with e2 | ⟨_,ys,i2,ey,hi2,e2⟩
    · exact .inr ⟨f,xs,i,rfl,by omega,e2⟩
    · cases ey;refine .inr ⟨f,xs,i+i2,rfl,by omega,?_⟩;rw [e2,List.append_assoc,List.replicate_append_replicate]
theorem Ap.le {F:Addr->Prop} {k j:Nat} {H H1:Hp} (h:Ap F k H H1) (l:k<=j):Ap F j H H1:=by
  intro b o e;rcases h b o e with e1 | ⟨f,xs,i,rfl,hi,e1⟩
  · exact .inl e1
  · exact .inr ⟨f,xs,i,rfl,by omega,e1⟩
theorem Ap.there {F:Addr->Prop} {k:Nat} {H H1:Hp} (h:Ap F k H H1) {b:Addr} (q:H b≠none):H1 b≠none:=by
  cases e:H b with
  | none=>exact absurd e q
  | some o=>
    rcases h b o e with e1 | ⟨_,xs,i,_,_,e1⟩
    · rw [e1];simp
    · rw [e1];simp
theorem Ap.out {F:Addr->Prop} {k:Nat} {H H1:Hp} (h:Ap F k H H1) {b:Addr} {o:HO} (e:H b=some o) (n:¬ F b):H1 b=some o:=(h b o e).elim id λ q=>absurd q.1 n
theorem Nst.on {H H':Hp} {F:Addr->Prop} {T k n:Nat} {v:V} (h:Nst H F T n v) (a:Ap F k H H'):Nst H' F (T+k) n v:=by
  induction h with
  | non=>exact .non
  | bl b=>exact .bl b
  | int i=>exact .int i
  | str z=>exact .str z
  | @lst n b us j h f l t e ih=>
    rcases a b _ h with e1 | ⟨_,xs,i,ex,hi,e1⟩
    · exact .lst e1 f l (by omega) ih
    · cases ex;refine .lst (k:=j+i) ?_ f l (by omega) ih;rw [e1,List.append_assoc,List.replicate_append_replicate]
  | @tup n b us h l e ih=>
    rcases a b _ h with e1 | ⟨_,xs,i,ex,hi,e1⟩
    · exact .tup e1 l ih
    · cases ex
inductive SmD:Dt->Prop where
  | non:SmD .non
  | bl (b:Bool):SmD (.bl b)
  | int (i:Int):SmD (.int i)
  | str (z:Str):SmD (.str z)
  | lst {ds:List Dt} (l:ds.length<=100) (h:∀ d∈ds,SmD d):SmD (.lst ds)
  | tup {ds:List Dt} (l:ds.length<=100) (h:∀ d∈ds,SmD d):SmD (.tup ds)
theorem Nst.of {H:Hp} {F:Addr->Prop} {n:Nat} {v:V} {d:Dt} (r:Rp H F n v d) (h:SmD d):Nst H F 0 n v:=by
  have mem:∀ {vs:List V} {ds:List Dt} (l:vs.length=ds.length) {v:V},v∈vs->∃ (i:Nat) (d:Dt),vs[i]?=some v/\ds[i]?=some d/\d∈ds:=λ l v hv=>by
    obtain ⟨i,hi,rfl⟩:=List.mem_iff_getElem.mp hv;exact ⟨i,_,List.getElem?_eq_getElem hi,List.getElem?_eq_getElem (by omega),List.getElem_mem _⟩
  induction r with
  | non=>exact .non
  | bl b=>exact .bl b
  | int i=>exact .int i
  | str z=>exact .str z
  | @lst n a vs ds q f b l e ih=>
    cases h with
    | lst l' hd=>
      refine .lst (us:=vs) (k:=0) (by rw [q];simp) f (by omega) (Nat.le_refl _) λ v hv=> ?_;obtain ⟨i,d,h1,h2,h3⟩:=mem l hv;exact ih i v d h1 h2 (hd d h3)
  | @tup n a vs ds q b l e ih=>
    cases h with
    | tup l' hd=>
      refine .tup q (by omega) λ v hv=> ?_;obtain ⟨i,d,h1,h2,h3⟩:=mem l hv;exact ih i v d h1 h2 (hd d h3)
theorem Nst.kind {K:PySem.W.Frag} {H:Hp} {F:Addr->Prop} {T n:Nat} {v:V} (h:Nst H F T n v):∃ t b1 b2,TyOf K H v (.type t)/\PySem.W.kitOne K (.type t) (.type "list")=some b1/\PySem.W.kitOne K (.type t) (.type "tuple")=some b2/\
    ((b1=false/\b2=false/\∀ m,cV m v=0)\/(b1=true/\b2=false/\∃ m a us k,n=m+1/\v= .ref a/\H a=some (.lst (us++List.replicate k (.int 7)))/\F a/\us.length<=100/\k<=T/\∀ x∈us,Nst H F T m x)\/
      (b1=false/\b2=true/\∃ m a us,n=m+1/\v= .ref a/\H a=some (.tup us)/\us.length<=100/\∀ x∈us,Nst H F T m x)):=by
  cases h with
  | non=>exact ⟨_,false,false, .non,kb (by decide +kernel),kb (by decide +kernel), .inl ⟨rfl,rfl,λ _=>rfl⟩⟩
  | bl b=>exact ⟨_,false,false, .bl b,kb (by decide +kernel),kb (by decide +kernel), .inl ⟨rfl,rfl,λ _=>rfl⟩⟩
  | int i=>exact ⟨_,false,false, .int i,kb (by decide +kernel),kb (by decide +kernel), .inl ⟨rfl,rfl,λ _=>rfl⟩⟩
  | str z=>exact ⟨_,false,false, .str z,kb (by decide +kernel),kb (by decide +kernel), .inl ⟨rfl,rfl,λ _=>rfl⟩⟩
  | lst h f l t e=>exact ⟨_,true,false, .lst h,kb (by decide +kernel),kb (by decide +kernel), .inr (.inl ⟨rfl,rfl,_,_,_,_,rfl,rfl,h,f,l,t,e⟩)⟩
  | tup h l e=>exact ⟨_,false,true, .tup h,kb (by decide +kernel),kb (by decide +kernel), .inr (.inr ⟨rfl,rfl,_,_,_,rfl,rfl,h,l,e⟩)⟩
def Bo:Nat->Sp
  | 0=>λ _ _ _ _=>False
  | n+1=>λ vs H Q _=>∃ v F T,vs=[v]/\Nst H F T n v/\T+cV n v<=10000000/\(∀ b,F b->H b≠none)/\∀ H',Ap F (cV n v) H H'->Q .non H'
noncomputable abbrev B0:Stmt:=top 65
theorem sc__law_spoilt:FnScope ["_law_told","_law_one"] ["_law_told"] (Ai B0):=⟨rfl,rfl,rfl,by decide +kernel,rfl,by decide +kernel,by decide +kernel⟩
theorem Gy {n:Nat} {f:Addr} {fd:FuncData} (F:Fun K "_law_spoilt" "_law_spoilt" B0 f fd) (T:Txt K mg c) (c__law_spoilt:CallF P w K mg base "_law_spoilt" (n+1) ["_law_told"] (Bo n)):FnOk P w K mg base CX0 (n+2) f fd ["_law_told"] (Bo (n+1)):=by
  refine F.ok sc__law_spoilt (λ vs H Q E h=> ?_) (λ cdv A outer s H vs Q E hr h=> ?_)
  · obtain ⟨v,F,T,rfl,_⟩:=h;rfl
  · obtain ⟨v,F,T',rfl,nv,tc,hF,k⟩:=h;refine ⟨_,(Ac (AB (PW.pt (EH (AT (Ah (A8 (K:=K)) rfl (T.own _ (by decide)) boot_isinstance (Aa (pv 0) (Aa (Bt rfl (T.own _ (by decide)) AF) Ab)))) (C5 (AT (Ah (A8 (K:=K)) rfl (T.own _ (by decide)) boot_isinstance (Aa (pv 0) (Aa (Bt rfl (T.own _ (by decide)) AI) Ab))))))) (Ae (B4 PassesOwn.never rfl (Bi (K:=K) (Av (Er (K:=K)) rfl (T.own _ (by decide)) AF (Aa (pv 0) Ab))) (AK (i:=1) sc__law_spoilt.nd rfl (Or.inl rfl)) (Ae (Az (Ad c__law_spoilt hr (Aa (pv 1) Ab)))))) Ar)
      (Ae (AB (AT (Ah (A8 (K:=K)) rfl (T.own _ (by decide)) boot_isinstance (Aa (pv 0) (Aa (Bt rfl (T.own _ (by decide)) AF) Ab)))) (Ae (Az (AW (K:=K) PySem.F.plainAttrs_list PySem.F.slot_list_append PySem.F.type_list_append AO (pv 0) (Aa Af Ab)))) Ar))),?_⟩
    obtain ⟨t,b1,b2,ty,k1,k2,kd⟩:=nv.kind (K:=K);have body:∀ D:Ends,(∃ m us j a,n=m+1/\v= .ref a/\(SqL K H a (us++List.replicate j (.int 7))\/SqT K H a (us++List.replicate j (.int 7)))/\us.length<=100/\j<=T'/\(∀ x∈us,Nst H F T' m x)/\∀ H3 y,Ap F (us.length*cN m) H H3->D.nx [some v,y] H3)->
        Ro (Md K (tCB (GQ K) (HL (Lb 0) JK))) (AS 1) (Nx (IX (Bo n) [] E0 (HL (Lb 1) JK))) D (L2.start ["_law_told","_law_one"] [v]) H:=by
      rintro D ⟨m,us,j,a,rfl,rfl,ha,lu,lj,iu,kk⟩;have cm:cN (m+1)=100*cN m+1:=rfl;have mu:us.length*cN m<=100*cN m:=Nat.mul_le_mul_right _ lu;have tc:T'+cN (m+1)<=10000000:=tc;walk_at "w";refine (λ key=>ha.elim (λ ha=>IH ha key) (λ ha=>BP ha key)) λ p hp=> ?_;have s1:=Aj (o:=HO.lst (us++List.replicate j (.int 7))) hp;have g1:upd H p (HO.lst (us++List.replicate j (.int 7))) p=_:=Ag;generalize upd H p (HO.lst (us++List.replicate j (.int 7)))=H1 at s1 g1 ⊢;have nF:¬ F p:=λ z=>hF p z hp;refine ⟨p,rfl,⟨_,SqL.of g1⟩,Cq (H0:=λ b=>if b=p then some (.lst (us++List.replicate j (.int 7))) else none) (GP (SqL.of (if_pos rfl))) (λ i σ H3=>∃ y,σ=[some (.ref a),y]/\Ap F (min i us.length*cN m) H1 H3) ⟨_,rfl,Ap.of (Same.refl _)⟩ (λ i σ H3 ⟨_,_,a3⟩ b o e=> ?_) ?_ ?_⟩
      · have e:(if b=p then some (HO.lst (us++List.replicate j (.int 7))) else none)=some o:=e;by_cases c:b=p
        · rw [if_pos c] at e;cases e;rw [c];exact a3.out g1 nF
        · rw [if_neg c] at e;cases e
      · rintro i σ G H3 hi ⟨y,rfl,a3⟩ s3;have a03:Ap F (min i us.length*cN m) H H3:=λ b o e=>by
          rcases a3 b o (s1 _ _ e) with e1 | ⟨f1,xs,q,ex,hq,e1⟩
          · exact .inl (s3 _ _ e1)
          · exact .inr ⟨f1,xs,q,ex,hq,s3 _ _ e1⟩
        have a13:Ap F (min i us.length*cN m) H1 H3:=λ b o e=>by
          rcases a3 b o e with e1 | ⟨f1,xs,q,ex,hq,e1⟩
          · exact .inl (s3 _ _ e1)
          · exact .inr ⟨f1,xs,q,ex,hq,s3 _ _ e1⟩
        have mi:min i us.length*cN m<=us.length*cN m:=Nat.mul_le_mul_right _ (Nat.min_le_right _ _);walk_at "w";rcases Nat.lt_or_ge i us.length with hu' | hu'
        · have ev:(us++List.replicate j (V.int 7)).getD i .non=us.getD i .non:=by
            rw [List.getD_eq_getElem?_getD,List.getD_eq_getElem?_getD,List.getElem?_append_left hu']
          rw [ev];have hm:us.getD i .non∈us:=L2.getD_mem hu';have mi2:(min i us.length+1)*cN m<=us.length*cN m:=Nat.mul_le_mul_right _ (by omega);rw [Nat.succ_mul] at mi2;refine ⟨_,F,T'+min i us.length*cN m,rfl,(iu _ hm).on a03,by have:=PZ m (us.getD i .non);omega,λ b hb=>a03.there (hF b hb),λ H4 a4=> ?_⟩;walk_at "w";refine ⟨_,rfl,?_⟩;rw [show min (i+1) us.length=i+1 by omega,Nat.succ_mul];have e2:min i us.length=i:=by omega
          rw [e2] at a13;exact (a13.trans a4).le (by have:=PZ m (us.getD i .non);omega)
        · have ev:(us++List.replicate j (V.int 7)).getD i .non= .int 7:=by
            rw [List.length_append,List.length_replicate] at hi;rw [List.getD_eq_getElem?_getD,List.getElem?_append_right hu',List.getElem?_replicate,if_pos (by omega)];rfl
          rw [ev];refine ⟨_,F,T'+min i us.length*cN m,rfl, .int 7,by show _+0<=_;omega,λ b hb=>a03.there (hF b hb),λ H4 a4=> ?_⟩;walk_at "w";refine ⟨_,rfl,?_⟩;rw [show min (i+1) us.length=min i us.length by omega];exact (a13.trans a4).le (Nat.le_refl _)
      · rintro σ H3 ⟨y,rfl,a3⟩;refine kk H3 y λ b o e=> ?_;have e0:min (us++List.replicate j (V.int 7)).length us.length=us.length:=by rw [List.length_append];omega
        rw [e0] at a3;exact a3 b o (s1 _ _ e)
    walk_at "w";refine AN ty k1 ?_;refine ⟨_,rfl,?_⟩;rcases kd with ⟨rfl,rfl,cv⟩ | ⟨rfl,rfl,m,a,us,j,rfl,rfl,ha,fa,lu,lj,iu⟩ | ⟨rfl,rfl,m,a,us,rfl,rfl,ha,lu,iu⟩
    · refine Ls ?_;walk_at "w";refine AN ty k2 ?_;walk_at "w";refine AN ty k1 ?_;walk_at "w";exact k H (by rw [cv];exact Ap.of (Same.refl _))
    · have cm:cN (m+1)=100*cN m+1:=rfl;have mu:us.length*cN m<=100*cN m:=Nat.mul_le_mul_right _ lu;refine HU (HU (body _ ⟨m,us,j,a,rfl,rfl, .inl (SqL.of ha),lu,lj,iu,λ H3 y a3=> ?_⟩));have g3:∃ q,q<=us.length*cN m/\H3 a=some (.lst ((us++List.replicate j (.int 7))++List.replicate q (.int 7))):=by
        rcases a3 a _ ha with e1 | ⟨_,xs,q,ex,hq,e1⟩
        · exact ⟨0,Nat.zero_le _,by rw [e1];simp⟩
        · cases ex;exact ⟨q,hq,e1⟩
      obtain ⟨q,hq,g3⟩:=g3;walk_at "w";refine AN (.lst g3) (kb (b:=true) (by decide +kernel)) ?_;walk_at "w";refine tyL (SqL.of g3) ?_;walk_at "w";have tc:T'+cN (m+1)<=10000000:=tc;refine BC g3 (by simp only [List.length_append,List.length_replicate];omega) ?_;walk_at "w";refine k _ λ b o e=> ?_;by_cases c':b=a
      · subst c';rw [ha] at e;cases e;refine .inr ⟨fa,_,q+1,rfl,by show q+1<=cN (m+1);omega,?_⟩;rw [Ag,List.append_assoc, <-List.replicate_succ']
      · rw [As c'];exact (a3.le (show us.length*cN m<=cN (m+1) by omega)) b o e
    · have cm:cN (m+1)=100*cN m+1:=rfl;have mu:us.length*cN m<=100*cN m:=Nat.mul_le_mul_right _ lu;refine Ls ?_;walk_at "w";refine AN ty k2 ?_;refine ⟨_,rfl,?_⟩;refine HU ?_;refine body _ ⟨m,us,0,a,rfl,rfl, .inr (SqT.of (by rw [ha];simp)),lu,Nat.zero_le _,iu,λ H3 y a3=> ?_⟩;have g3:H3 a=some (.tup us):=by
        rcases a3 a _ ha with e1 | ⟨_,xs,q,ex,hq,e1⟩
        · exact e1
        · cases ex
      walk_at "w";refine AN (.tup g3) (kb (b:=false) (by decide +kernel)) ?_;walk_at "w";exact k H3 (a3.le (show us.length*cN m<=cN (m+1) by omega))
theorem Em {f:Addr} {fd:FuncData} (D:DefAt K mg "_law_spoilt" B0 ["_law_told"] f fd) (T:Txt K mg c):∀ n,FnOk P w K mg base CX0 (n+1) f fd ["_law_told"] (Bo n)
  | 0=>⟨λ _ _ _ _ h=>h.elim,λ _ _ _ _ _ _ _ _ _ _ _ _ _ h=>h.elim⟩
  | n+1=>Gy D.fn T (D.call (Em D T n))
noncomputable abbrev tN (n:Nat):Str:=toString ((n:Nat):Int)
theorem getD_map {α β:Type} {f:α->β} {xs:List α} {i:Nat} {d:β} {e:α} (h:i<xs.length):(xs.map f).getD i d=f (xs.getD i e):=by
  rw [List.getD_eq_getElem?_getD,List.getElem?_map,List.getElem?_eq_getElem h,List.getD_eq_getElem?_getD,List.getElem?_eq_getElem h];rfl
theorem AX {α β:Type} {f:α->β} {xs:List α} {d:α}:(List.range xs.length).map (λ i=>f (xs.getD i d))=xs.map f:=by
  refine List.ext_getElem (by simp) λ i g1 g2=> ?_;rw [List.getElem_map,List.getElem_map,List.getElem_range,List.getD_eq_getElem?_getD,List.getElem?_eq_getElem (by simpa using g2)];rfl
def BA:Sp:=λ vs H Q _=>∃ (a:Addr) (ns:List Nat),vs=[.ref a]/\H a=some (.tup (ns.map nV))/\ns.length<=100/\(∀ n∈ns,n<=1000)/\∀ H' p,Same H H'->H p=none->H' p=some (.lst ((ns.map tN).map V.str))->Q (.ref p) H'
noncomputable abbrev Cm:Stmt:=top 18
theorem GK:FnScope ["numbers"] ["numbers"] (Ai Cm):=⟨rfl,rfl,rfl,by decide +kernel,rfl,by decide +kernel,by decide +kernel⟩
theorem GE {f:Addr} {fd:FuncData} (F:Fun K "number_texts" "number_texts" Cm f fd) (T:Txt K mg c) (c_number_text:CallF P w K mg base "number_text" 1 ["number"] Bp):FnOk P w K mg base CX0 2 f fd ["numbers"] BA:=by
  refine F.ok GK (λ vs H Q E h=> ?_) (λ cdv A outer s H vs Q E hr h=> ?_)
  · obtain ⟨a,ns,rfl,_⟩:=h;rfl
  · obtain ⟨a,ns,rfl,ha,hl,hn,k⟩:=h;refine ⟨_,(Ae (Al (AA (ID (K:=K) (pv 0)) (λ _ _ _ _=>Ax) (λ _ _ _ _=>(Ad c_number_text hr (Aa (pv 0) Ab)))))),?_⟩;walk_at "w";refine ⟨a,rfl,⟨_,SqT.of ha⟩,λ D hD=> ?_⟩;refine BF (G:=λ i=>tN (ns.getD i 0)) (EA (SqT.of ha) rfl) hD (by rw [List.length_map];omega) ?_ ?_
    · intro i H' R hi s kk;rw [List.length_map] at hi;rw [getD_map (e:=0) hi];walk_at "w";refine ⟨_,rfl,hn _ (L2.getD_mem hi),kk H' (Same.refl _)⟩
    intro H1 s1 g1;rw [List.length_map,AX] at g1;exact k H1 D s1 hD g1
def BB:Sp:=λ vs H Q _=>∃ (a:Addr) (ws:List Str) (ns:List Nat),vs=[.ref a]/\H a=some (.lst (ws.map V.str))/\ws.length<=100/\(∀ z∈ws,z.length<=100)/\ws.map C1=ns.map nV/\∀ H' p,Same H H'->H p=none->H' p=some (.lst (ns.map nV))->Q (.ref p) H'
noncomputable abbrev Cr:Stmt:=top 19
theorem GN:FnScope ["words"] ["words"] (Ai Cr):=⟨rfl,rfl,rfl,by decide +kernel,rfl,by decide +kernel,by decide +kernel⟩
theorem GG {f:Addr} {fd:FuncData} (F:Fun K "numbers_told" "numbers_told" Cr f fd) (T:Txt K mg c) (c_number_of:CallF P w K mg base "number_of" 3 ["word"] Bs):FnOk P w K mg base CX0 4 f fd ["words"] BB:=by
  refine F.ok GN (λ vs H Q E h=> ?_) (λ cdv A outer s H vs Q E hr h=> ?_)
  · obtain ⟨a,ws,ns,rfl,_⟩:=h;rfl
  · obtain ⟨a,ws,ns,rfl,ha,hl,hz,hn,k⟩:=h;have hlen:ws.length=ns.length:=by have:=congrArg List.length hn;simpa using this
    refine ⟨_,(Ae (Al (AA (Bi (K:=K) (pv 0)) (λ _ _ _ _=>Ax) (λ _ _ _ _=>(Ad c_number_of hr (Aa (pv 0) Ab)))))),?_⟩;walk_at "w";refine ⟨a,rfl,⟨_,SqL.of ha⟩,λ D hD=> ?_⟩;refine Gb (G:=λ i=>((ns.getD i 0:Nat):Int)) (AH (SqL.of ha) rfl) hD (by rw [List.length_map];omega) ?_ ?_
    · intro i H' R hi s kk;rw [List.length_map] at hi;rw [getD_map (e:=("":Str)) hi];have ev:C1 (ws.getD i "")=nV (ns.getD i 0):=by
        rw [<-getD_map (f:=C1) (d:= .non) hi,hn,getD_map (e:=0) (by omega)]
      walk_at "w";refine ⟨_,rfl,hz _ (L2.getD_mem hi),λ H3 s3=> ?_⟩;rw [ev];exact kk H3 s3
    intro H1 s1 g1;rw [List.length_map,hlen,AX (f:=λ n:Nat=>(n:Int)),List.map_map] at g1;exact k H1 D s1 hD g1
theorem FD (z:Str) (xs:List Str):inV (.str z) (xs.map V.str)=decide (z∈xs):=by
  unfold inV;rw [Bool.eq_iff_iff,List.any_eq_true,decide_eq_true_eq];constructor
  · rintro ⟨y,hy,e⟩;obtain ⟨k,hk,rfl⟩:=List.mem_map.mp hy;have e:k=z:=by simpa [eqV] using e
    exact e▸hk
  · intro h;exact ⟨.str z,List.mem_map.mpr ⟨z,h,rfl⟩,by simp [eqV]⟩
def Gv:Sp:=λ vs H Q _=>∃ z:Str,vs=[.str z]/\z.length<=100000/\("":Str)∉Txt.split z " "/\∀ H' p,Same H H'->H p=none->H' p=some (.lst ((Txt.split z " ").map V.str))->Q (.ref p) H'
noncomputable abbrev E5:Stmt:=top 20
theorem sc_words_of:FnScope ["row","words"] ["row"] (Ai E5):=⟨rfl,rfl,rfl,by decide +kernel,rfl,by decide +kernel,by decide +kernel⟩
theorem KI {f:Addr} {fd:FuncData} (F:Fun K "words_of" "words_of" E5 f fd) (T:Txt K mg c):FnOk P w K mg base CX0 1 f fd ["row"] Gv:=by
  refine F.ok sc_words_of (λ vs H Q E h=> ?_) (λ cdv A outer s H vs Q E hr h=> ?_)
  · obtain ⟨z,rfl,_⟩:=h;rfl
  · obtain ⟨z,rfl,hl,hn,k⟩:=h;refine ⟨_,(Ac (AB (BL (AT (Ah (A8 (K:=K)) rfl (T.own _ (by decide)) boot_isinstance (Aa (pv 0) (Aa (Bt rfl (T.own _ (by decide)) boot_str) Ab))))) (Ae (Al B3)) Ar)
      (Ac (Am (i:=1) sc_words_of.nd rfl (Or.inl rfl) (AW (K:=K) PySem.F.plainAttrs_str PySem.F.slot_str_split PySem.F.type_str_split FM (pv 0) (Aa Ao Ab)))
      (Ac (AB (An (QN (K:=K)) Ao (pv 1) (by with_unfolding_all rfl)) (Ae (Al B3)) Ar)
      (Ae (Al (pv 1)))))),?_⟩
    walk_at "w";refine AN (.str _) (kb (b:=true) (by decide +kernel)) ?_;walk_at "w";refine tyS ?_;walk_at "w";refine ⟨_,_,rfl,rfl,by decide,by rw [sizeLine_eq];omega,?_⟩;row_lines H x1;walk_at "w";refine ⟨p1,_,rfl, .inl (SqL.of g1),rfl,by simp [Bf],?_⟩;rw [FD,decide_eq_false hn];walk_at "w";rw [if_neg (show ¬ (if false=true then !false else false)=true by decide)];walk_at "w";exact k H1 p1 s1 n1 g1
noncomputable def Cw (ns:List Nat):List Str:=if ns=[] then ["-"] else ns.map tN
def Fl:Sp:=λ vs H Q _=>∃ (a:Addr) (ns:List Nat),vs=[.ref a]/\H a=some (.tup (ns.map nV))/\ns.length<=100/\(∀ n∈ns,n<=1000)/\∀ H' p,Same H H'->H p=none->H' p=some (.lst ((Cw ns).map V.str))->Q (.ref p) H'
noncomputable abbrev Ei:Stmt:=top 44
theorem Jg:FnScope ["shafts"] ["shafts"] (Ai Ei):=⟨rfl,rfl,rfl,by decide +kernel,rfl,by decide +kernel,by decide +kernel⟩
theorem Jl {f:Addr} {fd:FuncData} (F:Fun K "tie_words" "tie_words" Ei f fd) (T:Txt K mg c) (c_number_texts:CallF P w K mg base "number_texts" 2 ["numbers"] BA):FnOk P w K mg base CX0 3 f fd ["shafts"] Fl:=by
  refine F.ok Jg (λ vs H Q E h=> ?_) (λ cdv A outer s H vs Q E hr h=> ?_)
  · obtain ⟨a,ns,rfl,_⟩:=h;rfl
  · obtain ⟨a,ns,rfl,ha,hl,hn,k⟩:=h;refine ⟨_,(Ae (Al (C9 (An DN (Ah (AC (K:=K)) rfl (T.own _ (by decide)) boot_len (Aa (pv 0) Ab)) Af (Aq _)) (Ad c_number_texts hr (Aa (pv 0) Ab)) (Aw (Aa (B8 T.k_NONE) Ab))))),?_⟩;walk_at "w";refine Fu (SqT.of ha) ?_;walk_at "w";rw [List.length_map];refine A5 (λ h=> ?_) (λ h=> ?_)
    · walk_at "w";refine ⟨a,ns,rfl,ha,hl,hn,λ H1 p s1 hp g1=> ?_⟩;refine k H1 p s1 hp ?_;unfold Cw;rw [if_neg (λ z=>by rw [z] at h;simp at h)];exact g1
    · walk_at "w";row_lines H x1;have e:ns=[]:=List.length_eq_zero_iff.mp (by omega);subst e;exact k H1 p1 s1 n1 g1
theorem Ew {zs:List Str} {c:Nat} (h:∀ z∈zs,z.length<=c):(zs.map (·.length)).sum<=zs.length*c:=by
  induction zs with
  | nil=>simp
  | cons z zs ih=>
    have:=h z List.mem_cons_self;have:=ih λ y hy=>h y (List.mem_cons_of_mem _ hy);rw [List.map_cons,List.sum_cons,List.length_cons,Nat.succ_mul];omega
theorem Nn:∀ n:Nat,n<17->(tN n).length<=2:=by decide +kernel
noncomputable def AJ (ns:List Nat):Str:=if ns=[] then "-" else Txt.join "+" (ns.map tN)
def Fk:Sp:=λ vs H Q _=>∃ (a:Addr) (ns:List Nat),vs=[.ref a]/\H a=some (.tup (ns.map nV))/\ns.length<=16/\(∀ n∈ns,n<=16)/\∀ H',Same H H'->Q (.str (AJ ns)) H'
noncomputable abbrev DR:Stmt:=top 45
theorem JA:FnScope ["treadles"] ["treadles"] (Ai DR):=⟨rfl,rfl,rfl,by decide +kernel,rfl,by decide +kernel,by decide +kernel⟩
theorem JL {f:Addr} {fd:FuncData} (F:Fun K "pick_word" "pick_word" DR f fd) (T:Txt K mg c) (c_number_texts:CallF P w K mg base "number_texts" 2 ["numbers"] BA):FnOk P w K mg base CX0 3 f fd ["treadles"] Fk:=by
  refine F.ok JA (λ vs H Q E h=> ?_) (λ cdv A outer s H vs Q E hr h=> ?_)
  · obtain ⟨a,ns,rfl,_⟩:=h;rfl
  · obtain ⟨a,ns,rfl,ha,hl,hn,k⟩:=h;refine ⟨_,(Ae (Al (C9 (An DN (Ah (AC (K:=K)) rfl (T.own _ (by decide)) boot_len (Aa (pv 0) Ab)) Af (Aq _)) (AW (K:=K) PySem.F.plainAttrs_str PySem.F.slot_str_join PySem.F.type_str_join (Gc (K:=K)) (B8 T.k_TOGETHER) (Aa (Ad c_number_texts hr (Aa (pv 0) Ab)) Ab)) (B8 T.k_NONE)))),?_⟩;walk_at "w";refine Fu (SqT.of ha) ?_;walk_at "w";rw [List.length_map];refine A5 (λ h=> ?_) (λ h=> ?_)
    · walk_at "w";refine tyS ?_;walk_at "w";refine ⟨a,ns,rfl,ha,by omega,λ n hn'=>by have:=hn n hn';omega,λ H1 p s1 hp g1=> ?_⟩;walk_at "w";refine ⟨_,p,ns.map tN,rfl,rfl,SqL.of g1,?_,?_⟩
      · have:=Ew (zs:=ns.map tN) (c:=2) (λ z hz=>by
          obtain ⟨n,h1,rfl⟩:=List.mem_map.mp hz;exact Nn n (Nat.lt_succ_of_le (hn n h1)))
        rw [List.length_map] at this ⊢;show _+ns.length*1<=_;omega
      · have:=k H1 s1;unfold AJ at this;rw [if_neg (λ z=>by rw [z] at h;simp at h)] at this;exact this
    · walk_at "w";have e:ns=[]:=List.length_eq_zero_iff.mp (by omega);subst e;exact k H (Same.refl _)
noncomputable def EU (z:Str):List Str:=if z="-" then [] else Txt.split z "+"
def BO:Sp:=λ vs H Q _=>∃ z:Str,vs=[.str z]/\z.length<=1000/\∀ H' p,Same H H'->H p=none->H' p=some (.lst ((EU z).map V.str))->Q (.ref p) H'
noncomputable abbrev B6:Stmt:=top 53
theorem FX:FnScope ["word"] ["word"] (Ai B6):=⟨rfl,rfl,rfl,by decide +kernel,rfl,by decide +kernel,by decide +kernel⟩
theorem Ga {f:Addr} {fd:FuncData} (F:Fun K "trodden_words" "trodden_words" B6 f fd) (T:Txt K mg c):FnOk P w K mg base CX0 1 f fd ["word"] BO:=by
  refine F.ok FX (λ vs H Q E h=> ?_) (λ cdv A outer s H vs Q E hr h=> ?_)
  · obtain ⟨z,rfl,_⟩:=h;rfl
  · obtain ⟨z,rfl,hl,k⟩:=h;refine ⟨_,(Ae (Al (C9 (An BH (pv 0) (B8 T.k_NONE) (Aq _)) (Aw Ab) (AW (K:=K) PySem.F.plainAttrs_str PySem.F.slot_str_split PySem.F.type_str_split FM (pv 0) (Aa (B8 T.k_TOGETHER) Ab))))),?_⟩;walk_at "w";unfold EU at k;refine A5 (λ h=> ?_) (λ h=> ?_)
    · rw [if_pos (show z=Str.ofString "-" from h)] at k;walk_at "w";row_lines H x1;exact k H1 p1 s1 n1 g1
    · rw [if_neg (show ¬ z=Str.ofString "-" from h)] at k;walk_at "w";refine tyS ?_;walk_at "w";refine ⟨_,_,rfl,rfl,by decide,by rw [sizeLine_eq];omega,?_⟩;row_lines H x1;exact k H1 p1 s1 n1 g1
def EK:Nat->Nat->List Nat->Prop
  | _,_,[]=>True
  | l,m,n::ns=>l+1<=n/\n<=m/\EK n m ns
def B5:Sp:=λ vs H Q _=>∃ (a:Addr) (ws:List Str) (ns:List Nat) (m:Nat),vs=[.ref a,nV m]/\H a=some (.lst (ws.map V.str))/\ws.length<=100/\(∀ z∈ws,z.length<=100)/\ws.map C1=ns.map nV/\EK 0 m ns/\∀ H',Same H H'->Q (nV ws.length) H'
noncomputable abbrev Cp:Stmt:=top 49
theorem sc_rising_words:FnScope ["words","most","last","many","word","number"] ["words","most"] (Ai Cp):=⟨rfl,rfl,rfl,by decide +kernel,rfl,by decide +kernel,by decide +kernel⟩
theorem GD {f:Addr} {fd:FuncData} (F:Fun K "rising_words" "rising_words" Cp f fd) (T:Txt K mg c) (c_number_of:CallF P w K mg base "number_of" 3 ["word"] Bs) (c_is_among:CallF P w K mg base "is_among" 2 ["thing","least","most"] (A3 K)):FnOk P w K mg base CX0 4 f fd ["words","most"] B5:=by
  refine F.ok sc_rising_words (λ vs H Q E h=> ?_) (λ cdv A outer s H vs Q E hr h=> ?_)
  · obtain ⟨a,ws,ns,m,rfl,_⟩:=h;rfl
  · obtain ⟨a,ws,ns,m,rfl,ha,hl,hz,hn,hri,k⟩:=h;have hlen:ws.length=ns.length:=by have:=congrArg List.length hn;simpa using this
    refine ⟨_,(Ac (Am (i:=2) sc_rising_words.nd rfl (Or.inl rfl) Af)
      (Ac (B4 PassesOwn.never rfl (LU (K:=K) rfl (T.own _ (by decide)) (Aa (pv 0) Ab)) (Jj (K:=K) rfl (AY (AK (i:=3) sc_rising_words.nd rfl (Or.inl rfl)) (AY (AK (i:=4) sc_rising_words.nd rfl (Or.inl rfl)) Ft))) (Ac (Am (i:=5) sc_rising_words.nd rfl (Or.inl rfl) (Ad c_number_of hr (Aa (pv 4) Ab)))
      (Ac (AB (BL (AT (Ad c_is_among (hr.mono (by decide)) (Aa (pv 5) (Aa (Ak Ay (pv 2) Af) (Aa (pv 1) Ab)))))) (Ae (Al (pv 3))) Ar)
      (Ae (Am (i:=2) sc_rising_words.nd rfl (Or.inl rfl) (pv 5))))))
      (Ae (Al (Ah (AC (K:=K)) rfl (T.own _ (by decide)) boot_len (Aa (pv 0) Ab)))))),?_⟩
    walk_at "w";refine ⟨a,rfl,⟨_,SqL.of ha⟩,NT (xs:=ws.map V.str) (λ i σ H'=>∃ (last:Nat) (x3 x4 x5:Option V),σ=[some (.ref a),some (nV m),some (nV last),x3,x4,x5]/\Same H H'/\EK last m (ns.drop i)) ⟨0,_,_,_,rfl,Same.refl _,hri⟩ (λ i σ H' _ ⟨_,_,_,_,_,s,_⟩=>SqL.of (s _ _ ha)) ?_ ?_⟩
    · rintro i x σ H1 p hx ⟨last,x3,x4,x5,rfl,s1,hr1⟩ hp;rw [List.getElem?_map] at hx;obtain ⟨z,ez,rfl⟩:=Option.map_eq_some_iff.mp hx;have hi:=(List.getElem?_eq_some_iff.mp ez).1;have en:ns[i]?=some (ns.getD i 0):=by rw [List.getD_eq_getElem?_getD,List.getElem?_eq_getElem (by omega)];rfl
      have ev:C1 z=nV (ns.getD i 0):=by
        have:=congrArg (λ l:List V=>l[i]?) hn;simp only [List.getElem?_map,ez,en,Option.map_some] at this;exact Option.some.inj this
      have ed:ns.drop i=ns.getD i 0::ns.drop (i+1):=by
        rw [List.drop_eq_getElem_cons (by omega),List.getD_eq_getElem?_getD,List.getElem?_eq_getElem (by omega)];rfl
      rw [ed] at hr1;obtain ⟨r1,r2,r3⟩:=hr1;generalize ns.getD i 0=n at ev r1 r2 r3;have s2:=Aj (o:=HO.tup [.int (i:Nat), .str z]) hp;walk_at "w";refine ⟨z,rfl,hz _ (List.mem_of_getElem? ez),λ H3 s3=> ?_⟩;rw [ev];walk_at "w";refine ⟨_,_,_,rfl,⟨_, .int _⟩,?_⟩;have ea:EY (nV n) (((last:Nat):Int)+1) (m:Nat)=true:=by
        show (decide (((last:Nat):Int)+1<=((n:Nat):Int))&&decide (((n:Nat):Int)<=((m:Nat):Int)))=true;rw [decide_eq_true (by omega),decide_eq_true (by omega)];rfl
      rw [ea];walk_at "w";exact ⟨n,_,_,_,rfl,s1.trans (s2.trans s3),r3⟩
    · rintro σ H1 ⟨last,x3,x4,x5,rfl,s1,_⟩;walk_at "w";refine Au (SqL.of (s1 _ _ ha)) ?_;rw [List.length_map];exact k H1 s1
def DI:Sp:=λ vs H Q _=>∃ (z:Str) (ns:List Nat) (m:Nat),vs=[.str z,nV m]/\z.length<=1000/\(EU z).length<=100/\(∀ y∈EU z,y.length<=100)/\(EU z).map C1=ns.map nV/\EK 0 m ns/\∀ H',Same H H'->Q (.bl true) H'
noncomputable abbrev CD:Stmt:=top 54
theorem sc_is_pick_word:FnScope ["word","treadles","words"] ["word","treadles"] (Ai CD):=⟨rfl,rfl,rfl,by decide +kernel,rfl,by decide +kernel,by decide +kernel⟩
theorem GF {f:Addr} {fd:FuncData} (F:Fun K "is_pick_word" "is_pick_word" CD f fd) (T:Txt K mg c) (c_trodden_words:CallF P w K mg base "trodden_words" 1 ["word"] BO) (c_rising_words:CallF P w K mg base "rising_words" 4 ["words","most"] B5):FnOk P w K mg base CX0 5 f fd ["word","treadles"] DI:=by
  refine F.ok sc_is_pick_word (λ vs H Q E h=> ?_) (λ cdv A outer s H vs Q E hr h=> ?_)
  · obtain ⟨z,ns,m,rfl,_⟩:=h;rfl
  · obtain ⟨z,ns,m,rfl,hl,h1,h2,h3,h4,k⟩:=h;refine ⟨_,(Ac (Am (i:=2) sc_is_pick_word.nd rfl (Or.inl rfl) (Ad c_trodden_words (hr.mono (by decide)) (Aa (pv 0) Ab)))
      (Ae (Al (A6 BH (Ad c_rising_words hr (Aa (pv 2) (Aa (pv 1) Ab))) (Ah (AC (K:=K)) rfl (T.own _ (by decide)) boot_len (Aa (pv 2) Ab)) (Aq _))))),?_⟩
    walk_at "w";refine ⟨z,rfl,hl,λ H1 p s1 hp g1=> ?_⟩;walk_at "w";refine ⟨p,_,ns,m,rfl,g1,h1,h2,h3,h4,λ H2 s2=> ?_⟩;walk_at "w";refine Au (SqL.of (s2 _ _ g1)) ?_;rw [List.length_map];walk_at "w";rw [decide_eq_true rfl];exact k H2 (s1.trans s2)
def AU:Sp:=λ vs H Q _=>∃ (a:Addr) (rs:List Str) (i:Nat) (nm:Str) (ws:List Str),vs=[.ref a,nV (i+1), .str nm]/\H a=some (.lst (rs.map V.str))/\i<rs.length/\rs.length<=1000/\(rs.getD i "").length<=100000/\Txt.split (rs.getD i "") " "=nm::ws/\("":Str)∉nm::ws/\∀ H' p,Same H H'->H p=none->H' p=some (.lst (ws.map V.str))->Q (.ref p) H'
noncomputable abbrev Cv:Stmt:=top 47
theorem sc_words_behind:FnScope ["rows","number","name","words"] ["rows","number","name"] (Ai Cv):=⟨rfl,rfl,rfl,by decide +kernel,rfl,by decide +kernel,by decide +kernel⟩
theorem Gx {f:Addr} {fd:FuncData} (F:Fun K "words_behind" "words_behind" Cv f fd) (T:Txt K mg c) (c_words_of:CallF P w K mg base "words_of" 1 ["row"] Gv):FnOk P w K mg base CX0 2 f fd ["rows","number","name"] AU:=by
  refine F.ok sc_words_behind (λ vs H Q E h=> ?_) (λ cdv A outer s H vs Q E hr h=> ?_)
  · obtain ⟨a,rs,i,nm,ws,rfl,_⟩:=h;rfl
  · obtain ⟨a,rs,i,nm,ws,rfl,ha,hi,hl,hz,hs,hn,k⟩:=h;refine ⟨_,(Ac (Am (i:=3) sc_words_behind.nd rfl (Or.inl rfl) (C9 (An Ny (pv 1) (Ah (AC (K:=K)) rfl (T.own _ (by decide)) boot_len (Aa (pv 0) Ab)) (Aq _)) (Ad c_words_of hr (Aa (Ba (CI (K:=K)) (pv 0) (Ak E8 (pv 1) Af) (λ _ _=>rfl)) Ab)) B3))
      (Ac (AB (An Lf (pv 3) B3 (Aq _)) (Ae Bg) Ar)
      (Ac (AB (An IL (Ba (CI (K:=K)) (pv 3) Af (λ _ _=>rfl)) (pv 2) (Aq _)) (Ae Bg) Ar)
      (Ae (Al (A0 (C7 (K:=K)) (pv 3) (AV Af) Ca)))))),?_⟩
    walk_at "w";refine Au (SqL.of ha) ?_;walk_at "w";rw [List.length_map];refine A5 (λ _=> ?_) (λ h=>absurd (show (((i+1:Nat):Int))<=((rs.length:Nat):Int) by omega) h);walk_at "w";rw [show ((i+1:Nat):Int) - 1=((i:Nat):Int) by omega];have ez:rs[i]?=some (rs.getD i ""):=by rw [List.getD_eq_getElem?_getD,List.getElem?_eq_getElem hi];rfl
    refine Bu (SqL.of ha) (AQ (j:=i) (by rw [List.getElem?_map,ez];rfl)) ?_;walk_at "w";refine ⟨_,rfl,hz,by rw [hs];exact hn,λ H1 p s1 hp g1=> ?_⟩;rw [hs] at g1;walk_at "w";refine ⟨rfl,?_⟩;walk_at "w";refine A5 (λ q=>by cases q) (λ _=> ?_);walk_at "w";refine Bu (SqL.of g1) (AQ (j:=0) (v:= .str nm) rfl) ?_;walk_at "w";refine Le (λ q=>absurd rfl q) (λ _=> ?_);walk_at "w";refine BQ (SqL.of g1) ?_;rw [Fs (by decide),show (nm::ws).map V.str=V.str nm::ws.map V.str from rfl,show ((1:Int).toNat)=1 from rfl,List.drop_one,List.tail_cons];row_lines H1 x2;exact k H2 p2 (s1.trans s2) (s1.free n2) g2
def CZ:Sp:=λ vs H Q _=>∃ (a:Addr) (rs:List Str) (i:Nat) (nm z:Str) (n m:Nat),vs=[.ref a,nV (i+1), .str nm,nV m]/\H a=some (.lst (rs.map V.str))/\i<rs.length/\rs.length<=1000/\(rs.getD i "").length<=100000/\Txt.split (rs.getD i "") " "=[nm,z]/\("":Str)∉[nm,z]/\z.length<=100/\C1 z=nV n/\1<=n/\n<=m/\∀ H',Same H H'->Q (nV n) H'
noncomputable abbrev Dj:Stmt:=top 48
theorem sc_read_count:FnScope ["rows","number","name","most","words"] ["rows","number","name","most"] (Ai Dj):=⟨rfl,rfl,rfl,by decide +kernel,rfl,by decide +kernel,by decide +kernel⟩
theorem Iq {f:Addr} {fd:FuncData} (F:Fun K "read_count" "read_count" Dj f fd) (T:Txt K mg c) (c_words_behind:CallF P w K mg base "words_behind" 2 ["rows","number","name"] AU) (c_number_of:CallF P w K mg base "number_of" 3 ["word"] Bs) (c_is_among:CallF P w K mg base "is_among" 2 ["thing","least","most"] (A3 K)):FnOk P w K mg base CX0 4 f fd ["rows","number","name","most"] CZ:=by
  refine F.ok sc_read_count (λ vs H Q E h=> ?_) (λ cdv A outer s H vs Q E hr h=> ?_)
  · obtain ⟨a,rs,i,nm,z,n,m,rfl,_⟩:=h;rfl
  · obtain ⟨a,rs,i,nm,z,n,m,rfl,ha,hi,hl,hz,hs,hn,hzl,ev,n1,nm',k⟩:=h;refine ⟨_,(Ac (Am (i:=4) sc_read_count.nd rfl (Or.inl rfl) (Ad c_words_behind (hr.mono (by decide)) (Aa (pv 0) (Aa (pv 1) (Aa (pv 2) Ab)))))
      (Ac (AB (PW.pt (EH (An BH (Ah (AC (K:=K)) rfl (T.own _ (by decide)) boot_len (Aa (pv 4) Ab)) Af (Aq _)) (C5 (BL (AT (Ad c_is_among (hr.mono (by decide)) (Aa (Ad c_number_of hr (Aa (Ba (CI (K:=K)) (pv 4) Af (λ _ _=>rfl)) Ab)) (Aa Af (Aa (pv 3) Ab))))))))) (Ae Bg) Ar)
      (Ac (AB (An DN (Ah (AC (K:=K)) rfl (T.own _ (by decide)) boot_len (Aa (pv 4) Ab)) Af (Aq _)) (Ae Bg) Ar)
      (Ae (Al (Ad c_number_of hr (Aa (Ba (CI (K:=K)) (pv 4) Af (λ _ _=>rfl)) Ab))))))),?_⟩
    walk_at "w";refine ⟨a,rs,i,nm,[z],rfl,ha,hi,hl,hz,hs,hn,λ H1 p s1 hp g1=> ?_⟩;walk_at "w";refine Au (SqL.of g1) ?_;walk_at "w";refine A5 (λ q=>absurd q (by show ¬ ((1:Nat):Int)=0;decide)) (λ _=> ?_);walk_at "w";refine Bu (SqL.of g1) (AQ (j:=0) (v:= .str z) rfl) ?_;walk_at "w";refine ⟨z,rfl,hzl,λ H2 s2=> ?_⟩;rw [ev];walk_at "w";refine ⟨_,_,_,rfl,⟨_, .int _⟩,?_⟩;have ea:EY (nV n) 1 (m:Nat)=true:=by
      show (decide ((1:Int)<=((n:Nat):Int))&&decide (((n:Nat):Int)<=((m:Nat):Int)))=true;rw [decide_eq_true (by omega),decide_eq_true (by omega)];rfl
    rw [ea];have g2:=s2 _ _ g1;walk_at "w";refine Au (SqL.of g2) ?_;walk_at "w";refine A5 (λ q=>absurd q (by show ¬ (1:Int)<((1:Nat):Int);decide)) (λ _=> ?_);walk_at "w";refine Bu (SqL.of g2) (AQ (j:=0) (v:= .str z) rfl) ?_;walk_at "w";refine ⟨z,rfl,hzl,λ H3 s3=> ?_⟩;rw [ev];exact k H3 (s1.trans (s2.trans s3))
theorem L6:(" ":Str)=⟨#[32]⟩:=by decide +kernel
theorem P4:("\n":Str)=⟨#[10]⟩:=by decide +kernel
theorem LE:("+":Str)=⟨#[43]⟩:=by decide +kernel
theorem Kz (s:Str) (ws:List Str):Txt.join s ws=Str.join s ws:=StrLaws.glued_eq_join _ _
theorem KU {s:Nat} {w v:Str} {r:List Str}:(Str.join ⟨#[s]⟩ (w::v::r)).cps.toList=w.cps.toList++s::(Str.join ⟨#[s]⟩ (v::r)).cps.toList:=by
  show (w++⟨#[s]⟩++Str.join ⟨#[s]⟩ (v::r)).cps.toList=_;simp [Str.cps_append]
theorem HF {s:Nat}:∀ {ws:List Str} {c:Nat},c∈(Str.join ⟨#[s]⟩ ws).cps.toList->c=s\/∃ w∈ws,c∈w.cps.toList
  | [],c,h=>by
    have:(Str.join ⟨#[s]⟩ []).cps.toList=[]:=rfl;rw [this] at h;cases h
  | [w],c,h=> .inr ⟨w,List.mem_cons_self,h⟩
  | w::v::r,c,h=>by
    rw [KU] at h;rcases List.mem_append.mp h with h | h
    · exact .inr ⟨w,List.mem_cons_self,h⟩
    · rcases List.mem_cons.mp h with h | h
      · exact .inl h
      · rcases HF h with h | ⟨y,h1,h2⟩
        · exact .inl h
        · exact .inr ⟨y,List.mem_cons_of_mem _ h1,h2⟩
theorem F6 (z:Str):z.cps.toList.length=z.length:=by simp [Str.length]
theorem Jf {s n:Nat}:∀ {ws:List Str},(∀ z∈ws,z.length<=n)->(Str.join ⟨#[s]⟩ ws).length<=ws.length*(n+1)
  | [],h=>Nat.zero_le _
  | [w],h=>by have:=h w List.mem_cons_self;show w.length<=1*(n+1);omega
  | w::v::r,h=>by
    have:=h w List.mem_cons_self;have i:=Jf (s:=s) λ z hz=>h z (List.mem_cons_of_mem w hz);rw [<-F6,KU,List.length_append,List.length_cons,F6,F6,List.length_cons,Nat.succ_mul];omega
theorem KB {s:Nat}:∀ {ws:List Str},ws≠[]->(∀ z∈ws,z.cps.toList≠[])->(Str.join ⟨#[s]⟩ ws).cps.toList≠[]
  | [],h,_=>absurd rfl h
  | [w],_,h=>h w List.mem_cons_self
  | w::v::r,_,_=>by rw [KU];simp
structure GB (z:Str):Prop where
  ne:z.cps.toList≠[]
  nl:(10:Nat)∉z.cps.toList
  bl:(32:Nat)∉z.cps.toList
  le:z.length<=100
theorem GB.no {r:List Str} (g:∀ z∈r,GB z):("":Str)∉r:=λ h=>(g _ h).ne rfl
theorem IM {r:List Str} (h:r≠[]) (g:∀ z∈r,GB z):Txt.split (Txt.join " " r) " "=r:=by
  rw [L6];exact MS.split_join 32 (by decide) r h (λ w hw=>(g w hw).bl) (KB h λ w hw=>(g w hw).ne)
theorem FE {r:List Str} (g:∀ z∈r,GB z):(Txt.join " " r).length<=r.length*101:=by
  rw [L6,Kz];exact Jf λ z hz=>(g z hz).le
theorem G8 {rows:List (List Str)} (h:rows≠[]) (hr:∀ r∈rows,r≠[]/\∀ z∈r,GB z):Txt.split (Txt.join "\n" (rows.map (Txt.join " "))) "\n"=rows.map (Txt.join " "):=by
  rw [P4];have ne:∀ w∈rows.map (Txt.join " "),w.cps.toList≠[]:=λ w hw=>by
    obtain ⟨r,h1,rfl⟩:=List.mem_map.mp hw;rw [L6,Kz];exact KB (hr r h1).1 λ z hz=>((hr r h1).2 z hz).ne
  refine MS.split_join 10 (by decide) _ (λ z=>h (by simpa using z)) (λ w hw hc=> ?_) (KB (λ z=>h (by simpa using z)) ne);obtain ⟨r,h1,rfl⟩:=List.mem_map.mp hw;rw [L6,Kz] at hc;rcases HF hc with z | ⟨y,hy,hc⟩
  · cases z
  · exact ((hr r h1).2 y hy).nl hc
theorem Kg {rows:List (List Str)} {n:Nat} (hr:∀ r∈rows,(∀ z∈r,GB z)/\r.length<=n):(Txt.join "\n" (rows.map (Txt.join " "))).length<=rows.length*(n*101+1):=by
  rw [P4,Kz];refine Nat.le_trans (Jf (n:=n*101) λ w hw=> ?_) (by rw [List.length_map];exact Nat.le_refl _);obtain ⟨r,h1,rfl⟩:=List.mem_map.mp hw;exact Nat.le_trans (FE (hr r h1).1) (Nat.mul_le_mul_right _ (hr r h1).2)
noncomputable def okC (c:Nat):Bool:=c == 43||c == 45||(decide (48<=c)&&decide (c<=57))||(decide (97<=c)&&decide (c<=122))
structure GC (z:Str):Prop where
  ne:z.cps.toList≠[]
  ok:∀ c∈z.cps.toList,okC c=true
  le:z.length<=100
theorem GC.gb {z:Str} (g:GC z):GB z:=⟨g.ne,λ h=>by have:=g.ok _ h;revert this;decide,λ h=>by have:=g.ok _ h;revert this;decide,g.le⟩
theorem GC.cls {z:Str} (g:GC z):z≠clS:=λ e=>by
  have:=g.ok 41 (by rw [e];decide +kernel)
  revert this;decide
theorem Q8:opS=⟨#[40]⟩:=by decide +kernel
theorem GC.op {z:Str} (g:GC z):Txt.endswith z opS=false:=by
  cases h:Txt.endswith z opS with
  | false=>rfl
  | true=>
    unfold Txt.endswith at h;rw [Q8,Bool.and_eq_true,MS.subAt_one] at h;have:=g.ok 40 (List.mem_of_getElem? (of_decide_eq_true h.2))
    revert this;decide
theorem GC.tms {z:Str} (g:GC z):tms z=none:=if_neg (by rw [g.op];decide)
theorem F0:∀ n:Nat,n<17->(tN n).cps.toList≠[]/\(∀ c∈(tN n).cps.toList,48<=c/\c<=57)/\(tN n).length<=2/\MN.numOf (tN n).cps.toList=some n:=by decide +kernel
theorem Lm {n:Nat} (h:n<=16):C1 (tN n)=nV n:=Iw (F0 n (by omega)).2.2.2
theorem Qi {c:Nat} (h:48<=c/\c<=57):okC c=true:=by
  unfold okC;rw [decide_eq_true h.1,decide_eq_true h.2];simp
theorem Dc {n:Nat} (h:n<=16):GC (tN n):=let ⟨h1,h2,h3,_⟩:=F0 n (by omega);⟨h1,λ c hc=>Qi (h2 c hc),by omega⟩
theorem Lq {z:Str} (h:Hv z):GC z:=by
  obtain ⟨h1,h2⟩:=h;obtain ⟨⟨l⟩⟩:=z;obtain ⟨c,rfl⟩:∃ c,l=[c]:=List.length_eq_one_iff.mp (by simpa [Str.length] using h1);have h2:(!(Builtin.Str.occurrences colS ⟨#[c]⟩ 0 colS.length 1).isEmpty)=true:=h2;rw [StrLaws.found_one,decide_eq_true_iff] at h2;have key:∀ c∈colS.cps.toList,okC c=true:=by decide +kernel
  refine ⟨by simp,λ d hd=> ?_,by show 1<=100;decide⟩;have:d=c:=by simpa using hd
  rw [this];exact key c h2
theorem G0 {ns:List Nat} (h:∀ n∈ns,n<=16) (hl:ns.length<=16):GC (AJ ns):=by
  unfold AJ;split
  · exact ⟨by decide +kernel,by decide +kernel,by decide +kernel⟩
  · rename_i hne
    have nn:ns.map tN≠[]:=λ z=>hne (by simpa using z);rw [LE,Kz];refine ⟨KB nn λ w hw=> ?_,λ c hc=> ?_,?_⟩
    · obtain ⟨n,h1,rfl⟩:=List.mem_map.mp hw;exact (Dc (h n h1)).ne
    · rcases HF hc with rfl | ⟨y,hy,hc⟩
      · decide
      · obtain ⟨n,h1,rfl⟩:=List.mem_map.mp hy;exact (Dc (h n h1)).ok c hc
    · have:=Jf (s:=43) (n:=2) (ws:=ns.map tN) λ w hw=>by
        obtain ⟨n,h1,rfl⟩:=List.mem_map.mp hw;exact (F0 n (by have:=h n h1;omega)).2.2.1
      rw [List.length_map] at this;omega
theorem MP {ns:List Nat} (h:∀ n∈ns,n<=16):EU (AJ ns)=ns.map tN:=by
  unfold AJ;split
  · rename_i e
    subst e;rfl
  · rename_i hne
    have nn:ns.map tN≠[]:=λ z=>hne (by simpa using z);have sp:Txt.split (Txt.join "+" (ns.map tN)) "+"=ns.map tN:=by
      rw [LE];refine MS.split_join 43 (by decide) _ nn (λ w hw hc=> ?_) (KB nn λ w hw=> ?_)
      · obtain ⟨n,h1,rfl⟩:=List.mem_map.mp hw;have:=(F0 n (by have:=h n h1;omega)).2.1 43 hc;omega
      · obtain ⟨n,h1,rfl⟩:=List.mem_map.mp hw;exact (Dc (h n h1)).ne
    unfold EU;rw [if_neg,sp];intro e;rw [e,show Txt.split ("-":Str) "+"=[("-":Str)] by decide +kernel] at sp;obtain ⟨n,h1,h2⟩:=List.mem_map.mp (show ("-":Str)∈ns.map tN by rw [<-sp];exact List.mem_cons_self);have:=(F0 n (by have:=h n h1;omega)).2.1 45 (by rw [h2];decide +kernel);omega
theorem GX {ns:List Nat} (h:∀ n∈ns,n<=16):(ns.map tN).map C1=ns.map nV:=by
  rw [List.map_map];exact List.map_congr_left λ n hn=>Lm (h n hn)
theorem Kf {m:Nat}:∀ {ns:List Nat} {l:Nat},(∀ i,i<ns.length->(l::ns).getD i 0+1<=ns.getD i 0/\ns.getD i 0<=m)->EK l m ns
  | [],_,_=>trivial
  | n::ns,l,h=>⟨(h 0 (by simp)).1,(h 0 (by simp)).2,Kf λ i hi=>h (i+1) (by simpa using hi)⟩
theorem Eu {m:Nat} {ns:List Nat} (h:Rise m ns):EK 0 m ns:=Kf h
theorem FL {m:Nat}:∀ {ns:List Nat} {l:Nat},EK l m ns->∀ n∈ns,n<=m
  | n::ns,l,h,x,hx=>by
    rcases List.mem_cons.mp hx with rfl | hx
    · exact h.2.1
    · exact FL h.2.2 x hx
theorem Ea {m:Nat}:∀ {ns:List Nat} {l:Nat},EK l m ns->l<=m->l+ns.length<=m
  | [],l,_,hl=>hl
  | n::ns,l,h,_=>by
    have:=Ea h.2.2 h.2.1;have:=h.1;rw [List.length_cons];omega
theorem GU:∀ t,t<61->2<=t->(opn t).cps.toList≠[]/\(10:Nat)∉(opn t).cps.toList/\(32:Nat)∉(opn t).cps.toList/\(opn t).length<=100/\opn t≠clS/\tms (opn t)=some (some t):=by decide +kernel
theorem Hu {pl:Str->Prop} (hp:∀ z,pl z->GC z) {ws l:List Str} (h:MFew.Spr opn clS pl ws l):∀ z∈ws,GB z:=by
  induction h with
  | nil=>intro z hz;cases hz
  | one x px _ ih=>
    intro z hz;rcases List.mem_cons.mp hz with rfl | q
    · exact (hp _ px).gb
    · exact ih z q
  | grp t t2 t60 hu _ _ ih1 ih2=>
    intro z hz;rcases List.mem_cons.mp hz with rfl | q
    · obtain ⟨h1,h2,h3,h4,_⟩:=GU t (by omega) t2;exact ⟨h1,h2,h3,h4⟩
    · rcases List.mem_append.mp q with q | q
      · exact ih1 z q
      · rcases List.mem_cons.mp q with rfl | q
        · exact ⟨by decide +kernel,by decide +kernel,by decide +kernel,by decide +kernel⟩
        · exact ih2 z q
theorem BJ {pl:Str->Prop} {ws l:List Str} (h:MFew.Spr opn clS pl ws l):ws.length<=3*l.length:=by
  induction h with
  | nil=>exact Nat.le_refl _
  | one x px _ ih=>rw [List.length_cons,List.length_cons];omega
  | grp t t2 t60 hu _ _ ih1 ih2=>
    rename_i us u ws l _ _
    have:=List.length_pos_iff.mpr hu;have hm:u.length*2<=u.length*t:=Nat.mul_le_mul_left _ t2;rw [List.length_append,MFew.rep_len,List.length_cons,List.length_append,List.length_cons];omega
theorem LR {K:PySem.W.Frag} {sL:Sp} {H:Hp} {Q:VK} {a:Addr} {ws l:List Str} {mx:Nat} {pl:Str->Prop} (sa:SqL K H a (ws.map V.str)) (h:MFew.Spr opn clS pl ws l) (hl:l≠[]) (h1:l.length<=mx) (h2:mx<=60) (hp:∀ z,pl z->GC z)
    (hL:∀ z,pl z->∀ H' (Q':VK),Same H H'->(∀ H'',Same H' H''->Q' (.bl true) H'')->sL [.str z] H' Q' E0) (k:∀ H' p,Same H H'->H p=none->H' p=some (.lst (l.map V.str))->Q (.ref p) H'):Qs K sL H Q a ws l mx:=by
  classical
  have run:=MFew.run_spr (tms:=tms) (fits:=λ z=>decide (pl z)) (most:=mx) (λ z hz=>⟨(hp z hz).cls,(hp z hz).tms,decide_eq_true hz⟩) (λ t t2 t60=>⟨(GU t (by omega) t2).2.2.2.2.1,(GU t (by omega) t2).2.2.2.2.2⟩) h [] [] [] 0 (by omega);have:=BJ h;exact ⟨_,λ z=>decide (pl z),sa,h.ne hl,by omega,λ z hz=>(Hu hp h z hz).le,h2,run,λ z _ _ _ q=>hL z (of_decide_eq_true q),k⟩
theorem AtL.app {H:Hp}:∀ {as bs:List Addr} {us vs:List (List Str)},AtL H as us->AtL H bs vs->AtL H (as++bs) (us++vs)
  | [],_,[],_,_,h=>h
  | _::_,_,_::_,_,h,k=>⟨h.1,AtL.app h.2 k⟩
theorem AtL.get {H:Hp}:∀ {as:List Addr} {us:List (List Str)} {i:Nat} {u:List Str},AtL H as us->us[i]?=some u->∃ a,as[i]?=some a/\H a=some (.lst (u.map V.str))
  | [],[],_,_,_,e=>by simp at e
  | [],_::_,_,_,h,_=>h.elim
  | _::_,[],_,_,h,_=>h.elim
  | a::as,u::us,0,_,h,e=>by cases e;exact ⟨a,rfl,h.1⟩
  | a::as,u::us,i+1,_,h,e=>AtL.get (i:=i) h.2 (by simpa using e)
structure RowsA (H:Hp) (r:Addr) (as:List Addr) (us:List (List Str)):Prop where
  at':H r=some (.lst (as.map V.ref))
  el:AtL H as us
  nr:r∉as
theorem RowsA.same {H H':Hp} {r:Addr} {as:List Addr} {us:List (List Str)} (h:RowsA H r as us) (s:Same H H'):RowsA H' r as us:=⟨s _ _ h.at',h.el.on λ a _ o e=>s a o e,h.nr⟩
theorem RowsA.ext {H:Hp} {r:Addr} {as bs:List Addr} {us vs:List (List Str)} (h:RowsA H r as us) (b:AtL H bs vs) (n:r∉bs):RowsA (upd H r (.lst (as.map V.ref++bs.map V.ref))) r (as++bs) (us++vs):=by
  have nr:r∉as++bs:=λ z=>(List.mem_append.mp z).elim h.nr n;exact ⟨by rw [Ag,List.map_append],(h.el.app b).on λ a ha o e=>by rw [As (λ z=>nr (by rw [<-z];exact ha))];exact e,nr⟩
theorem RowsA.put {H:Hp} {r p:Addr} {as:List Addr} {us:List (List Str)} {u:List Str} (h:RowsA H r as us) (b:H p=some (.lst (u.map V.str))) (n:p≠r):RowsA (upd H r (.lst (as.map V.ref++[.ref p]))) r (as++[p]) (us++[u]):=
  h.ext (bs:=[p]) (vs:=[u]) ⟨b,trivial⟩ (λ z=>n (List.mem_singleton.mp z).symm)
theorem L3 {H:Hp} {F:Addr->Prop}:∀ {ys:List V} {rows:List (List Str)},ys.length=rows.length->(∀ i,i<rows.length->Rp H F 1 (ys.getD i .non) (dS (rows.getD i [])))->∃ as,ys=as.map V.ref/\AtL H as rows/\∀ a∈as,F a
  | [],[],_,_=>⟨[],rfl,trivial,λ a ha=>(nomatch ha)⟩
  | y::ys,r::rows,hl,h=>by
    obtain ⟨as,e1,e2,e3⟩:=L3 (ys:=ys) (rows:=rows) (by simpa using hl) λ i hi=>h (i+1) (by simpa using hi);obtain ⟨a,ea,h1,h2,_⟩:=IZ (h 0 (by simp));have ea:y= .ref a:=ea;exact ⟨a::as,by rw [e1,ea];rfl,⟨h1,e2⟩,λ b hb=>(List.mem_cons.mp hb).elim (λ z=>z▸h2) (e3 b)⟩
theorem MU {H:Hp} {F:Addr->Prop} {D:Addr} {rows:List (List Str)} (r:Rp H F 2 (.ref D) (.lst (rows.map dS))):∃ as,H D=some (.lst (as.map V.ref))/\AtL H as rows/\∀ a∈as,F a:=by
  obtain ⟨m,a,vs,em,e,hD,_,hl,_,el⟩:=C4 r;cases em;cases e;rw [List.length_map] at hl;obtain ⟨as,e1,e2,e3⟩:=L3 hl λ i hi=>by
    have:=el i (by simpa using hi);rw [L2.getD_map dS rows i .non [] hi] at this;exact this
  exact ⟨as,by rw [hD,e1],e2,e3⟩
theorem Ec {K:PySem.W.Frag} {H:Hp} {Q:VK} {l p:Addr} {xs ys:List Str} (c:H l=some (.lst (xs.map V.str))) (d:H p=some (.lst (ys.map V.str))) (b:xs.length+ys.length<=1000) (h:∀ q,H q=none->Q (.ref q) (upd H q (.lst ((xs++ys).map V.str)))):IS K (.ref l) (.ref p) H Q:=F3 (SqL.of c) (SqL.of d) (by rw [List.length_map,List.length_map];omega) (by rw [<-List.map_append];exact h)
noncomputable def wW (xs:List Str):List Str:=MFew.W opn clS xs 0 xs.length
noncomputable def AM (d:Dr) (w1 w2 w3 w4:List Str):List (List Str):=[[("shafts":Str),tN d.sh],[("treadles":Str),tN d.tr],("thread":Str)::w1]++d.ti.map (λ t=>("tie":Str)::Cw t)++[("tread":Str)::w2,("warp":Str)::w3,("weft":Str)::w4]
noncomputable def G3 (rows:List (List Str)):Str:=Txt.join "\n" (rows.map (Txt.join " "))
noncomputable def IP (d:Dr):Str:=G3 (AM d (wW (d.th.map tN)) (wW (d.td.map AJ)) (wW d.wa) (wW d.we))
structure SprD (d:Dr) (w1 w2 w3 w4:List Str):Prop where
  a1:MFew.Spr opn clS (λ z=>z∈d.th.map tN) w1 (d.th.map tN)
  a2:MFew.Spr opn clS (λ z=>z∈d.td.map AJ) w2 (d.td.map AJ)
  a3:MFew.Spr opn clS (λ z=>z∈d.wa) w3 d.wa
  a4:MFew.Spr opn clS (λ z=>z∈d.we) w4 d.we
theorem Ek {xs:List Str} (h:xs≠[]) (h60:xs.length<=60):MFew.Spr opn clS (λ z=>z∈xs) (wW xs) xs/\(wW xs).length<=60:=by
  obtain ⟨s,l⟩:=MFew.W_all (opn:=opn) (cls:=clS) (plain:=λ z=>z∈xs) (λ z hz=>hz) h60 h;refine ⟨s,?_⟩;unfold wW;rw [l];exact Nat.le_trans (MFew.M_le (MFew.cost_len xs)) h60
section
variable {d:Dr} (ok:DrOk d)
include ok
theorem DrOk.th16:∀ n∈d.th,n<=16:=λ n hn=>Nat.le_trans (ok.hs n hn) ok.s2
theorem DrOk.ti16:∀ l∈d.ti,∀ n∈l,n<=16:=λ l hl n hn=>Nat.le_trans (FL (Eu (ok.ir l hl)) n hn) ok.s2
theorem DrOk.tiL:∀ l∈d.ti,l.length<=16:=λ l hl=>by have:=Ea (Eu (ok.ir l hl)) (Nat.zero_le _);have:=ok.s2;omega
theorem DrOk.td16:∀ l∈d.td,∀ n∈l,n<=16:=λ l hl n hn=>Nat.le_trans (FL (Eu (ok.pr l hl)) n hn) ok.t2
theorem DrOk.tdL:∀ l∈d.td,l.length<=16:=λ l hl=>by have:=Ea (Eu (ok.pr l hl)) (Nat.zero_le _);have:=ok.t2;omega
theorem DrOk.g1:∀ z∈d.th.map tN,GC z:=λ z hz=>by obtain ⟨n,h,rfl⟩:=List.mem_map.mp hz;exact Dc (ok.th16 n h)
theorem DrOk.g2:∀ z∈d.td.map AJ,GC z:=λ z hz=>by obtain ⟨n,h,rfl⟩:=List.mem_map.mp hz;exact G0 (ok.td16 n h) (ok.tdL n h)
theorem DrOk.g3:∀ z∈d.wa,GC z:=λ z hz=>Lq (ok.wc z hz)
theorem DrOk.g4:∀ z∈d.we,GC z:=λ z hz=>Lq (ok.fc z hz)
theorem DrOk.n1:d.th.map tN≠[]:=λ z=>by have:=ok.h1;rw [<-List.length_map (f:=tN),z] at this;simp at this
theorem DrOk.n2:d.td.map AJ≠[]:=λ z=>by have:=ok.p1;rw [<-List.length_map (f:=AJ),z] at this;simp at this
theorem DrOk.n3:d.wa≠[]:=λ z=>by have:=ok.h1;have:=ok.wl;rw [z] at this;simp at this;omega
theorem DrOk.n4:d.we≠[]:=λ z=>by have:=ok.p1;have:=ok.fl;rw [z] at this;simp at this;omega
theorem DrOk.sprD:SprD d (wW (d.th.map tN)) (wW (d.td.map AJ)) (wW d.wa) (wW d.we):=by
  have:=ok.h2;have:=ok.p2;have:=ok.wl;have:=ok.fl;exact ⟨(Ek ok.n1 (by simpa using ok.h2)).1,(Ek ok.n2 (by simpa using ok.p2)).1,(Ek ok.n3 (by omega)).1,(Ek ok.n4 (by omega)).1⟩
theorem DrOk.tie_gb:∀ l∈d.ti,(∀ z∈Cw l,GB z)/\(Cw l).length<=16:=λ l hl=>by
  unfold Cw;split
  · exact ⟨λ z hz=>by rw [List.mem_singleton.mp hz];exact ⟨by decide +kernel,by decide +kernel,by decide +kernel,by decide +kernel⟩,by decide⟩
  · refine ⟨λ z hz=> ?_,by rw [List.length_map];exact ok.tiL l hl⟩;obtain ⟨n,h,rfl⟩:=List.mem_map.mp hz;exact (Dc (ok.ti16 l hl n h)).gb
theorem DrOk.rows {w1 w2 w3 w4:List Str} (s:SprD d w1 w2 w3 w4):∀ r∈AM d w1 w2 w3 w4,r≠[]/\(∀ z∈r,GB z)/\r.length<=181:=by
  have b:∀ {nm:Str} {ws:List Str},GB nm->(∀ z∈ws,GB z)->ws.length<=180->nm::ws≠[]/\(∀ z∈nm::ws,GB z)/\(nm::ws).length<=181:=λ g1 g2 h=>⟨by simp,λ z hz=>(List.mem_cons.mp hz).elim (λ e=>e▸g1) (g2 z),by rw [List.length_cons];omega⟩;have nm:∀ z∈(["shafts","treadles","thread","tie","tread","warp","weft"]:List Str),z.cps.toList≠[]/\(10:Nat)∉z.cps.toList/\(32:Nat)∉z.cps.toList/\z.length<=100:=by decide +kernel
  have gn:∀ z∈(["shafts","treadles","thread","tie","tread","warp","weft"]:List Str),GB z:=λ z hz=>let ⟨h1,h2,h3,h4⟩:=nm z hz;⟨h1,h2,h3,h4⟩;have q1:=BJ s.a1;have q2:=BJ s.a2;have q3:=BJ s.a3;have q4:=BJ s.a4;rw [List.length_map] at q1 q2;have:=ok.h2;have:=ok.p2;have:=ok.wl;have:=ok.fl;intro r hr;unfold AM at hr;rcases List.mem_append.mp hr with hr | hr
  · rcases List.mem_append.mp hr with hr | hr
    · rcases List.mem_cons.mp hr with rfl | hr
      · exact b (gn _ (by simp)) (λ z hz=>by rw [List.mem_singleton.mp hz];exact (Dc ok.s2).gb) (show 1<=180 by decide)
      · rcases List.mem_cons.mp hr with rfl | hr
        · exact b (gn _ (by simp)) (λ z hz=>by rw [List.mem_singleton.mp hz];exact (Dc ok.t2).gb) (show 1<=180 by decide)
        · rw [List.mem_singleton.mp hr];exact b (gn _ (by simp)) (Hu ok.g1 s.a1) (by omega)
    · obtain ⟨l,hl,rfl⟩:=List.mem_map.mp hr;have:=(ok.tie_gb l hl).2;exact b (gn _ (by simp)) (ok.tie_gb l hl).1 (by omega)
  · rcases List.mem_cons.mp hr with rfl | hr
    · exact b (gn _ (by simp)) (Hu ok.g2 s.a2) (by omega)
    · rcases List.mem_cons.mp hr with rfl | hr
      · exact b (gn _ (by simp)) (Hu ok.g3 s.a3) (by omega)
      · rw [List.mem_singleton.mp hr];exact b (gn _ (by simp)) (Hu ok.g4 s.a4) (by omega)
theorem DrOk.rlen {w1 w2 w3 w4:List Str}:(AM d w1 w2 w3 w4).length=d.tr+6:=by
  unfold AM;rw [List.length_append,List.length_append,List.length_map,ok.il];show 3+d.tr+3=_;omega
end
def ET (c:Cs):Sp:=λ vs H Q _=>∃ x d,vs=[.ref x]/\DrAt c.Draft H x d/\DrOk d/\∀ H',Same H H'->Q (.str (IP d)) H'
noncomputable abbrev Dp:Stmt:=top 46
theorem sc_draft_text:FnScope ["draft","rows"] ["draft"] (Ai Dp):=⟨rfl,rfl,rfl,by decide +kernel,rfl,by decide +kernel,by decide +kernel⟩
theorem HV {f:Addr} {fd:FuncData} (F:Fun K "draft_text" "draft_text" Dp f fd) (T:Txt K mg c) (c_number_text:CallF P w K mg base "number_text" 1 ["number"] Bp) (c_number_texts:CallF P w K mg base "number_texts" 2 ["numbers"] BA) (c_gathered:CallF P w K mg base "gathered" 4 ["items"] (DU K)) (c_tie_words:CallF P w K mg base "tie_words" 3 ["shafts"] Fl) (c_pick_word:CallF P w K mg base "pick_word" 3 ["treadles"] Fk):FnOk P w K mg base CX0 5 f fd ["draft"] (ET c):=by
  refine F.ok sc_draft_text (λ vs H Q E h=> ?_) (λ cdv A outer s H vs Q E hr h=> ?_)
  · obtain ⟨x,d,rfl,_⟩:=h;rfl
  · obtain ⟨x,d,rfl,D,ok,k⟩:=h;have hu:=hr.units0;have D0:=D;obtain ⟨dx,v1,v2,v3,v4,v5,h0,h1,h2,h3,h4,h5⟩:=D;obtain ⟨a1,rfl,e1,b1⟩:=Hg h1;obtain ⟨m2,a2,vs2,em2,rfl,e2,l2,b2,el2⟩:=HG h2;cases em2;obtain ⟨m3,a3,vs3,em3,rfl,e3,l3,b3,el3⟩:=HG h3;cases em3;obtain ⟨a4,rfl,e4,b4⟩:=Jt h4;obtain ⟨a5,rfl,e5,b5⟩:=Jt h5;rw [List.length_map] at l2 l3;refine ⟨_,(Ac (Am (i:=1) sc_draft_text.nd rfl (Or.inl rfl) (Aw (Aa (Aw (Aa Ao (Aa (Ad c_number_text (hr.mono (by decide)) (Aa (B7 (K:=K) (pv 0) rfl) Ab)) Ab))) (Aa (Aw (Aa Ao (Aa (Ad c_number_text (hr.mono (by decide)) (Aa (B7 (K:=K) (pv 0) rfl) Ab)) Ab))) Ab))))
      (Ac (Az (AW (K:=K) PySem.F.plainAttrs_list PySem.F.slot_list_append PySem.F.type_list_append AO (pv 1) (Aa (Ak (Bw (K:=K)) (Aw (Aa Ao Ab)) (Ad c_gathered hr (Aa (Ad c_number_texts (hr.mono (by decide)) (Aa (B7 (K:=K) (pv 0) rfl) Ab)) Ab))) Ab)))
      (Ac (Az (AW (K:=K) PySem.F.plainAttrs_list PySem.F.slot_list_extend PySem.F.type_list_extend IY (pv 1) (Aa (AA (ID (K:=K) (B7 (K:=K) (pv 0) rfl)) (λ _ _ _ _=>Ax) (λ _ _ _ _=>(Ak (Bw (K:=K)) (Aw (Aa Ao Ab)) (Ad c_tie_words (hr.mono (by decide)) (Aa (pv 0) Ab))))) Ab)))
      (Ac (Az (AW (K:=K) PySem.F.plainAttrs_list PySem.F.slot_list_append PySem.F.type_list_append AO (pv 1) (Aa (Ak (Bw (K:=K)) (Aw (Aa Ao Ab)) (Ad c_gathered hr (Aa (AA (ID (K:=K) (B7 (K:=K) (pv 0) rfl)) (λ _ _ _ _=>Ax) (λ _ _ _ _=>(Ad c_pick_word (hr.mono (by decide)) (Aa (pv 0) Ab)))) Ab))) Ab)))
      (Ac (Az (AW (K:=K) PySem.F.plainAttrs_list PySem.F.slot_list_append PySem.F.type_list_append AO (pv 1) (Aa (Ak (Bw (K:=K)) (Aw (Aa Ao Ab)) (Ad c_gathered hr (Aa (B7 (K:=K) (pv 0) rfl) Ab))) Ab)))
      (Ac (Az (AW (K:=K) PySem.F.plainAttrs_list PySem.F.slot_list_append PySem.F.type_list_append AO (pv 1) (Aa (Ak (Bw (K:=K)) (Aw (Aa Ao Ab)) (Ad c_gathered hr (Aa (B7 (K:=K) (pv 0) rfl) Ab))) Ab)))
      (Ae (Al (AW (K:=K) PySem.F.plainAttrs_str PySem.F.slot_str_join PySem.F.type_str_join (Gc (K:=K)) Ao (Aa (AA (Bi (K:=K) (pv 1)) (λ _ _ _ _=>Ax) (λ _ _ _ _=>(AW (K:=K) PySem.F.plainAttrs_str PySem.F.slot_str_join PySem.F.type_str_join (Gc (K:=K)) Ao (Aa (pv 0) Ab)))) Ab)))))))))),?_⟩
    walk_at "w";refine ⟨_,_,_,_,_,rfl,h0,T.kd_Draft.cl,T.na_Draft_shafts,rfl,?_⟩;walk_at "w";refine ⟨d.sh,rfl,by have:=ok.s2;omega,?_⟩;walk_at "w";row_lines H x1;walk_at "w";refine ⟨_,_,_,_,_,rfl,s1 _ _ h0,T.kd_Draft.cl,T.na_Draft_treadles,rfl,?_⟩;walk_at "w";refine ⟨d.tr,rfl,by have:=ok.t2;omega,?_⟩;walk_at "w";row_lines H1 x2;walk_at "w";row_lines H2 x3;have R3:RowsA H3 p3 [p1,p2] [[("shafts":Str),tN d.sh],[("treadles":Str),tN d.tr]]:=⟨g3,⟨s3 _ _ (s2 _ _ g1),s3 _ _ g2,trivial⟩,λ z=>by
      rcases List.mem_cons.mp z with z | z
      · rw [z,s2 _ _ g1] at n3;cases n3
      · rw [List.mem_singleton.mp z,g2] at n3;cases n3⟩
    have s03:=s1.trans (s2.trans s3);have f3:H p3=none:=s1.free (s2.free n3);clear n1 n2 g1 g2 s1 s2 s3;walk_at "w";refine tyL (SqL.of R3.at') ?_;walk_at "w";row_lines H3 x4;walk_at "w";refine ⟨_,_,_,_,_,rfl,(s03.trans s4) _ _ h0,T.kd_Draft.cl,T.na_Draft_threading,rfl,?_⟩;walk_at "w";refine ⟨a1,d.th,rfl,(s03.trans s4) _ _ e1,by have:=ok.h2;omega,λ n hn=>by have:=ok.th16 n hn;omega,λ H5 p5 s5 n5 g5=> ?_⟩;walk_at "w";refine ⟨p5,_,rfl, .inl (SqL.of g5),ok.n1,by simpa using ok.h2,λ H6 p6 s6 n6 g6=> ?_⟩;have lw1:=(Ek ok.n1 (by simpa using ok.h2)).2;refine Ec (xs:=["thread"]) (s6 _ _ (s5 _ _ g4)) g6 (show 1+(wW (d.th.map tN)).length<=1000 by omega) ?_;row_lines H6 x7;walk_at "w";have s37:=s4.trans (s5.trans (s6.trans s7));have R7:=R3.same s37;refine BC R7.at' (by show 2<16777216;decide) ?_;have R8:=R7.put g7 (λ z=>by rw [z,(s4.trans (s5.trans s6)) _ _ R3.at'] at n7;cases n7);have s08:=Bc (s03.trans s37) f3 (o:=HO.lst ([p1,p2].map V.ref++[.ref p7]));generalize upd H7 p3 (HO.lst ([p1,p2].map V.ref++[.ref p7]))=H8 at R8 s08 ⊢;clear R3 R7 s03 s37 s4 s5 s6 s7 g4 g5 g6 g7 n4 n5 n6 n7 g3;walk_at "w";refine tyL (SqL.of R8.at') ?_;walk_at "w";refine ⟨_,_,_,_,_,rfl,s08 _ _ h0,T.kd_Draft.cl,T.na_Draft_ties,rfl,?_⟩;walk_at "w";refine ⟨a2,rfl,⟨_,SqT.of (s08 _ _ e2)⟩,λ D9 hD9=> ?_⟩;refine AL (m:=1) (G:=λ i=>dS (("tie":Str)::Cw (d.ti.getD i []))) (EA (SqT.of (s08 _ _ e2)) rfl) hD9 b2 ?_ ?_
    · intro i H' R hi s kk;have hi':i<d.ti.length:=by omega
      have r:=el2 i (by simpa using hi');rw [L2.getD_map dT d.ti i .non [] hi'] at r;obtain ⟨b,eb,hb3,hb4⟩:=Hg r;rw [eb];have hm:=L2.getD_mem (y:=[]) hi';walk_at "w";row_lines H' x1;walk_at "w";refine ⟨b,_,rfl,(s08.trans (s.trans s1)) _ _ hb3,by have:=ok.tiL _ hm;omega,λ n hn=>by have:=ok.ti16 _ hm n hn;omega,λ H2 q2 s2 m2 g2=> ?_⟩;have:=(ok.tie_gb _ hm).2;refine Ec (xs:=["tie"]) (s2 _ _ g1) g2 (show 1+(Cw (d.ti.getD i [])).length<=1000 by omega) ?_;row_lines H2 x4;exact kk H4 _ (s1.trans (s2.trans s4)) (NX g4 (s1.free (s2.free n4)) (by rw [List.length_cons];omega))
    intro H9 ys9 s9 hl9 r9;rw [l2,show ((List.range d.ti.length).map λ i=>dS (("tie":Str)::Cw (d.ti.getD i [])))=(d.ti.map λ l=>("tie":Str)::Cw l).map dS by rw [List.map_map];exact AX (f:=λ l=>dS (("tie":Str)::Cw l))] at r9;obtain ⟨as9,e9,A9,f9⟩:=MU r9;walk_at "w";have R9:=R8.same s9;have la9:as9.length<=16:=by rw [A9.len,List.length_map,ok.il];exact ok.t2
    refine NO R9.at' e9 (by rw [List.length_map,List.length_map];show 3+_<=_;omega) ?_;have R10:=R9.ext A9 (λ z=>by have q:H8 p3=none:=f9 _ z;rw [R8.at'] at q;cases q);have s010:=Bc (s08.trans s9) f3 (o:=HO.lst (([p1,p2]++[p7]).map V.ref++as9.map V.ref));generalize upd H9 p3 (HO.lst (([p1,p2]++[p7]).map V.ref++as9.map V.ref))=H10 at R10 s010 ⊢;clear R8 R9 s08 s9 hl9 r9 e9 A9 f9 hD9;have lA:([p1,p2]++[p7]++as9).length<=19:=by rw [List.length_append];show 3+_<=_;omega
    generalize [p1,p2]++[p7]++as9=as10 at R10 lA;walk_at "w";refine tyL (SqL.of R10.at') ?_;walk_at "w";row_lines H10 x11;walk_at "w";have s011:=s010.trans s11;refine ⟨_,_,_,_,_,rfl,s011 _ _ h0,T.kd_Draft.cl,T.na_Draft_treading,rfl,?_⟩;walk_at "w";refine ⟨a3,rfl,⟨_,SqT.of (s011 _ _ e3)⟩,λ D12 hD12=> ?_⟩;refine BF (G:=λ i=>AJ (d.td.getD i [])) (EA (SqT.of (s011 _ _ e3)) rfl) hD12 b3 ?_ ?_
    · intro i H' R hi s kk;have hi':i<d.td.length:=by omega
      have r:=el3 i (by simpa using hi');rw [L2.getD_map dT d.td i .non [] hi'] at r;obtain ⟨b,eb,hb3,hb4⟩:=Hg r;rw [eb];have hm:=L2.getD_mem (y:=[]) hi';walk_at "w";exact ⟨b,_,rfl,(s011.trans s) _ _ hb3,ok.tdL _ hm,λ n hn=>ok.td16 _ hm n hn,λ H2 s2=>kk H2 s2⟩
    intro H12 s12 g12;rw [l3,AX (f:=AJ)] at g12;walk_at "w";refine ⟨D12,_,rfl, .inl (SqL.of g12),ok.n2,by simpa using ok.p2,λ H13 p13 s13 n13 g13=> ?_⟩;have lw2:=(Ek ok.n2 (by simpa using ok.p2)).2;refine Ec (xs:=["tread"]) (s13 _ _ (s12 _ _ g11)) g13 (show 1+(wW (d.td.map AJ)).length<=1000 by omega) ?_;row_lines H13 x14;walk_at "w";have s1014:=s11.trans (s12.trans (s13.trans s14));have R14:=R10.same s1014;refine BC R14.at' (by rw [List.length_map];omega) ?_;have R15:=R14.put g14 (λ z=>by rw [z,(s11.trans (s12.trans s13)) _ _ R10.at'] at n14;cases n14);have s015:=Bc (s010.trans s1014) f3 (o:=HO.lst (as10.map V.ref++[.ref p14]));generalize upd H14 p3 (HO.lst (as10.map V.ref++[.ref p14]))=H15 at R15 s015 ⊢;clear R10 R14 s010 s011 s1014 s11 s12 s13 s14 g11 g12 g13 g14 n11 n13 n14 hD12;have lA5:(as10++[p14]).length<=20:=by rw [List.length_append];show _+1<=_;omega
    generalize as10++[p14]=as15 at R15 lA5;walk_at "w";refine tyL (SqL.of R15.at') ?_;walk_at "w";row_lines H15 x16;walk_at "w";have s016:=s015.trans s16;refine ⟨_,_,_,_,_,rfl,s016 _ _ h0,T.kd_Draft.cl,T.na_Draft_warp,rfl,?_⟩;walk_at "w";refine ⟨a4,_,rfl, .inr (SqT.of (s016 _ _ e4)),ok.n3,by have:=ok.wl;have:=ok.h2;omega,λ H17 p17 s17 n17 g17=> ?_⟩;have lw3:=(Ek ok.n3 (by have:=ok.wl;have:=ok.h2;omega)).2;refine Ec (xs:=["warp"]) (s17 _ _ g16) g17 (show 1+(wW d.wa).length<=1000 by omega) ?_;row_lines H17 x18;walk_at "w";have s1518:=s16.trans (s17.trans s18);have R18:=R15.same s1518;refine BC R18.at' (by rw [List.length_map];omega) ?_;have R19:=R18.put g18 (λ z=>by rw [z,(s16.trans s17) _ _ R15.at'] at n18;cases n18);have s019:=Bc (s015.trans s1518) f3 (o:=HO.lst (as15.map V.ref++[.ref p18]));generalize upd H18 p3 (HO.lst (as15.map V.ref++[.ref p18]))=H19 at R19 s019 ⊢;clear R15 R18 s015 s016 s1518 s16 s17 s18 g16 g17 g18 n16 n17 n18;have lA9:(as15++[p18]).length<=21:=by rw [List.length_append];show _+1<=_;omega
    generalize as15++[p18]=as19 at R19 lA9;walk_at "w";refine tyL (SqL.of R19.at') ?_;walk_at "w";row_lines H19 x20;walk_at "w";have s020:=s019.trans s20;refine ⟨_,_,_,_,_,rfl,s020 _ _ h0,T.kd_Draft.cl,T.na_Draft_weft,rfl,?_⟩;walk_at "w";refine ⟨a5,_,rfl, .inr (SqT.of (s020 _ _ e5)),ok.n4,by have:=ok.fl;have:=ok.p2;omega,λ H21 p21 s21 n21 g21=> ?_⟩;have lw4:=(Ek ok.n4 (by have:=ok.fl;have:=ok.p2;omega)).2;refine Ec (xs:=["weft"]) (s21 _ _ g20) g21 (show 1+(wW d.we).length<=1000 by omega) ?_;row_lines H21 x22;walk_at "w";have s1922:=s20.trans (s21.trans s22);have R22:=R19.same s1922;refine BC R22.at' (by rw [List.length_map];omega) ?_;have R23:=R22.put g22 (λ z=>by rw [z,(s20.trans s21) _ _ R19.at'] at n22;cases n22);have s023:=Bc (s019.trans s1922) f3 (o:=HO.lst (as19.map V.ref++[.ref p22]));generalize upd H22 p3 (HO.lst (as19.map V.ref++[.ref p22]))=H23 at R23 s023 ⊢;clear R19 R22 s019 s020 s1922 s20 s21 s22 g20 g21 g22 n20 n21 n22;have eR:[[("shafts":Str),tN d.sh],[("treadles":Str),tN d.tr]]++[[("thread":Str)]++MFew.W opn clS (d.th.map tN) 0 (d.th.map tN).length]++d.ti.map (λ l=>("tie":Str)::Cw l)++[[("tread":Str)]++MFew.W opn clS (d.td.map AJ) 0 (d.td.map AJ).length]++[[("warp":Str)]++MFew.W opn clS d.wa 0 d.wa.length]++[[("weft":Str)]++MFew.W opn clS d.we 0 d.we.length]=AM d (wW (d.th.map tN)) (wW (d.td.map AJ)) (wW d.wa) (wW d.we):=by
      unfold AM wW;simp only [List.append_assoc,List.cons_append,List.nil_append]
    rw [eR] at R23;have rok:=ok.rows ok.sprD;have rl:=ok.rlen (w1:=wW (d.th.map tN)) (w2:=wW (d.td.map AJ)) (w3:=wW d.wa) (w4:=wW d.we);unfold IP G3 at k;generalize AM d (wW (d.th.map tN)) (wW (d.td.map AJ)) (wW d.wa) (wW d.we)=rows at R23 rok rl k;have t2:=ok.t2;walk_at "w";refine tyS ?_;walk_at "w";refine ⟨p3,rfl,⟨_,SqL.of R23.at'⟩,λ D24 hD24=> ?_⟩;have lE:=R23.el.len;refine BF (G:=λ i=>Txt.join " " (rows.getD i [])) (AH (SqL.of R23.at') rfl) hD24 (by rw [List.length_map];omega) ?_ ?_
    · intro i H' R hi s kk;rw [List.length_map] at hi;have hi':i<rows.length:=by omega
      have er:rows[i]?=some (rows.getD i []):=by rw [List.getD_eq_getElem?_getD,List.getElem?_eq_getElem hi'];rfl
      obtain ⟨a,ea,ga⟩:=R23.el.get er;have ev:(((as19++[p22]).map V.ref).getD i .non)= .ref a:=by rw [List.getD_eq_getElem?_getD,List.getElem?_map,ea];rfl
      rw [ev];obtain ⟨q1,q2,q3⟩:=rok _ (L2.getD_mem (y:=[]) hi');walk_at "w";refine tyS ?_;walk_at "w";refine ⟨_,a,_,rfl,rfl,SqL.of (s _ _ ga),?_,kk H' (Same.refl _)⟩;have:=Ew λ z hz=>(q2 z hz).le;show _+(rows.getD i []).length*1<=_;omega
    intro H24 s24 g24;rw [List.length_map,lE,AX] at g24;walk_at "w";refine ⟨_,D24,_,rfl,rfl,SqL.of g24,?_,k H24 (s023.trans s24)⟩;have:=Ew (zs:=rows.map (Txt.join " ")) (c:=181*101) λ z hz=>by
      obtain ⟨r,h1,rfl⟩:=List.mem_map.mp hz;obtain ⟨q1,q2,q3⟩:=rok r h1;exact Nat.le_trans (FE q2) (Nat.mul_le_mul_right _ q3)
    rw [List.length_map] at this ⊢;show _+rows.length*1<=_;omega
noncomputable def nt (H:Hp):Hp:=λ b=>match H b with
  | some (.tbl _)=>none
  | o=>o
theorem Hm {H:Hp} {b:Addr} {o:HO} (h:H b=some o) (n:∀ ps,o≠ .tbl ps):nt H b=some o:=by
  unfold nt;rw [h];cases o with
  | tbl ps=>exact absurd rfl (n ps)
  | _=>rfl
theorem Hh {H:Hp} {b:Addr} {o:HO} (h:nt H b=some o):H b=some o/\∀ ps,o≠ .tbl ps:=by
  unfold nt at h;split at h
  · cases h
  · rename_i e
    refine ⟨h,λ ps z=> ?_⟩;subst z;exact e ps h
theorem Pd {H:Hp}:Same (nt H) H:=λ b o e=>(Hh e).1
theorem Gd {H:Hp} {b:Addr} {xs:List V} (h:H b=some (.lst xs)):nt H b=some (.lst xs):=Hm h λ _ z=>by cases z
theorem HK {H:Hp} {F:Addr->Prop} {n:Nat} {v:V} {d:Dt} (r:Rp H F n v d):Rp (nt H) F n v d:=by
  induction r with
  | non=>exact .non
  | bl b=>exact .bl b
  | int i=>exact .int i
  | str z=>exact .str z
  | lst h f b l e ih=>exact .lst (Gd h) f b l ih
  | tup h b l e ih=>exact .tup (Hm h λ _ z=>by cases z) b l ih
theorem V6 {C:Addr} {H:Hp} {x:Addr} {d:Dr} (h:DrAt C H x d):DrAt C (nt H) x d:=by
  obtain ⟨dx,v1,v2,v3,v4,v5,h0,h1,h2,h3,h4,h5⟩:=h;exact ⟨dx,v1,v2,v3,v4,v5,Hm h0 (λ _ z=>by cases z),HK h1,HK h2,HK h3,HK h4,HK h5⟩
noncomputable def WG:Str:=(envOfC "read_threading" (Ai (top 52)) 0 0 .none).qual++"<lambda>"
noncomputable def UE:Str:=(envOfC "read_treading" (Ai (top 55)) 0 0 .none).qual++"<lambda>"
noncomputable def SK:Str:=(envOfC "_law_plain" (Ai (top 71)) 0 0 .none).qual++"<lambda>"
structure Tb (t1 t2 t3:Addr) (H:Hp):Prop where
  l1:LamT H t1 WG
  l2:LamT H t2 UE
  l3:LamT H t3 SK
  n12:t1≠t2
  n13:t1≠t3
  n23:t2≠t3
theorem Tb.same {t1 t2 t3:Addr} {H H':Hp} (h:Tb t1 t2 t3 H) (s:Same H H'):Tb t1 t2 t3 H':=⟨h.l1.same s,h.l2.same s,h.l3.same s,h.n12,h.n13,h.n23⟩
structure SmT (t1 t2 t3:Addr) (H H':Hp):Prop where
  st:Same (nt H) H'
  th:∀ b,H b≠none->H' b≠none
  tb:Tb t1 t2 t3 H->Tb t1 t2 t3 H'
section
variable {t1 t2 t3:Addr} {H H' H'':Hp}
theorem SmT.of (s:Same H H'):SmT t1 t2 t3 H H':=⟨λ b o e=>s b o (Hh e).1,λ b n z=>n (s.free z),λ t=>t.same s⟩
theorem SmT.trans (s:SmT t1 t2 t3 H H') (t:SmT t1 t2 t3 H' H''):SmT t1 t2 t3 H H'':=⟨λ b o e=>t.st b o (Hm (s.st b o e) (Hh e).2),λ b n=>t.th b (s.th b n),λ x=>t.tb (s.tb x)⟩
theorem SmT.free (s:SmT t1 t2 t3 H H') {b:Addr} (n:H' b=none):H b=none:=by
  cases e:H b with
  | none=>rfl
  | some o=>exact absurd n (s.th b (by rw [e];simp))
theorem SmT.lst (s:SmT t1 t2 t3 H H') {b:Addr} {xs:List V} (h:H b=some (.lst xs)):H' b=some (.lst xs):=s.st _ _ (Gd h)
theorem SmT.rp (s:SmT t1 t2 t3 H H') {F:Addr->Prop} {n:Nat} {v:V} {d:Dt} (r:Rp H F n v d):Rp H' F n v d:=(HK r).same s.st
theorem Ex {T t:Addr} {q p:Str} (h:LamT H T q) (l:LamT H t p) (n:T≠t) (old:∀ b o,b≠t->H b=some o->H' b=some o):LamT H' T q:=by
  obtain ⟨ps,h1,h2,h3⟩:=h;obtain ⟨ps',e,_⟩:=l;refine ⟨ps,old _ _ n h1,h2,λ pos cv z=> ?_⟩;obtain ⟨c',oc,q1,q2,q3⟩:=h3 pos cv z;exact ⟨c',oc,q1,old _ _ (DP q2 e (λ z=>by unfold exO at z;cases z)) q2,q3⟩
theorem Jd {t:Addr} {p:Str} (l:LamT H t p) (l':LamT H' t p) (old:∀ b o,b≠t->H b=some o->H' b=some o) (tb:Tb t1 t2 t3 H->Tb t1 t2 t3 H'):SmT t1 t2 t3 H H':=by
  obtain ⟨ps,e,_⟩:=l;obtain ⟨ps',e',_⟩:=l';refine ⟨λ b o h=>old b o (λ z=> ?_) (Hh h).1,λ b n z=> ?_,tb⟩
  · have:=(Hh h).1;rw [z,e] at this;exact (Hh h).2 ps (Option.some.inj this).symm
  · by_cases hb:b=t
    · rw [hb,e'] at z;cases z
    · cases q:H b with
      | none=>exact n q
      | some o=>rw [old b o hb q] at z;cases z
theorem W6 (t:Tb t1 t2 t3 H) (l':LamT H' t1 WG) (old:∀ b o,b≠t1->H b=some o->H' b=some o):SmT t1 t2 t3 H H':=Jd t.l1 l' old λ t=>⟨l',Ex t.l2 t.l1 t.n12.symm old,Ex t.l3 t.l1 t.n13.symm old,t.n12,t.n13,t.n23⟩
theorem W4 (t:Tb t1 t2 t3 H) (l':LamT H' t2 UE) (old:∀ b o,b≠t2->H b=some o->H' b=some o):SmT t1 t2 t3 H H':=Jd t.l2 l' old λ t=>⟨Ex t.l1 t.l2 t.n12 old,l',Ex t.l3 t.l2 t.n23.symm old,t.n12,t.n13,t.n23⟩
theorem Xf (t:Tb t1 t2 t3 H) (l':LamT H' t3 SK) (old:∀ b o,b≠t3->H b=some o->H' b=some o):SmT t1 t2 t3 H H':=Jd t.l3 l' old λ t=>⟨Ex t.l1 t.l3 t.n13 old,Ex t.l2 t.l3 t.n23 old,l',t.n12,t.n13,t.n23⟩
end
structure RowAt (H:Hp) (a:Addr) (rs:List Str) (i:Nat) (nm:Str) (ws:List Str):Prop where
  at':H a=some (.lst (rs.map V.str))
  lt:i<rs.length
  le:rs.length<=1000
  len:(rs.getD i "").length<=100000
  sp:Txt.split (rs.getD i "") " "=nm::ws
  no:("":Str)∉nm::ws
theorem EE {H:Hp} {Q:VK} {E:XK} {a:Addr} {rs:List Str} {i:Nat} {nm:Str} {ws:List Str} (r:RowAt H a rs i nm ws) (k:∀ H' p,Same H H'->H p=none->H' p=some (.lst (ws.map V.str))->Q (.ref p) H'):AU [.ref a,nV (i+1), .str nm] H Q E:=⟨a,rs,i,nm,ws,rfl,r.at',r.lt,r.le,r.len,r.sp,r.no,k⟩
theorem L9 {ns:List Nat} (h:∀ n∈ns,n<=16):∀ z∈ns.map tN,z≠("-":Str):=λ z hz e=>by
  obtain ⟨n,h1,h2⟩:=List.mem_map.mp hz;have:=(F0 n (by have:=h n h1;omega)).2.1 45 (by rw [h2,e];decide +kernel);omega
def Ge (K:PySem.W.Frag):Sp:=λ vs H Q _=>∃ (a:Addr) (rs:List Str) (i:Nat) (l:List Nat) (m:Nat),vs=[.ref a,nV (i+1),nV m]/\RowAt H a rs i "tie" (Cw l)/\EK 0 m l/\m<=16/\∀ H' p,Same H H'->H p=none->H' p=some (.lst (l.map nV))->Q (.ref p) H'
noncomputable abbrev EX:Stmt:=top 50
theorem sc_read_tie:FnScope ["rows","number","shafts","words","stand"] ["rows","number","shafts"] (Ai EX):=⟨rfl,rfl,rfl,by decide +kernel,rfl,by decide +kernel,by decide +kernel⟩
theorem J5 {f:Addr} {fd:FuncData} (F:Fun K "read_tie" "read_tie" EX f fd) (T:Txt K mg c) (c_words_behind:CallF P w K mg base "words_behind" 2 ["rows","number","name"] AU) (c_rising_words:CallF P w K mg base "rising_words" 4 ["words","most"] B5) (c_numbers_told:CallF P w K mg base "numbers_told" 4 ["words"] BB):FnOk P w K mg base CX0 5 f fd ["rows","number","shafts"] (Ge K):=by
  refine F.ok sc_read_tie (λ vs H Q E h=> ?_) (λ cdv A outer s H vs Q E hr h=> ?_)
  · obtain ⟨a,rs,i,l,m,rfl,_⟩:=h;rfl
  · obtain ⟨a,rs,i,l,m,rfl,ra,hri,hm,k⟩:=h;have hu:=hr.units0;have l16:∀ n∈l,n<=16:=λ n hn=>Nat.le_trans (FL hri n hn) hm;have ll:=Ea hri (Nat.zero_le _);refine ⟨_,(Ac (Am (i:=3) sc_read_tie.nd rfl (Or.inl rfl) (Ad c_words_behind (hr.mono (by decide)) (Aa (pv 0) (Aa (pv 1) (Aa Ao Ab)))))
      (Ac (AB (An (Gh hu (K:=K)) (pv 3) (Aw (Aa (B8 T.k_NONE) Ab)) (Aq _)) (Ae (Al (Aw Ab))) Ar)
      (Ac (Am (i:=4) sc_read_tie.nd rfl (Or.inl rfl) (C9 (An (Gh hu (K:=K)) (A0 (C7 (K:=K)) (pv 3) Ca (AV Af)) (Aw (Aa (B8 T.k_NONE) Ab)) (Aq _)) Af (Ad c_rising_words hr (Aa (pv 3) (Aa (pv 2) Ab)))))
      (Ac (AB (PW.pt (EH (An Kx (pv 4) (Ah (AC (K:=K)) rfl (T.own _ (by decide)) boot_len (Aa (pv 3) Ab)) (Aq _)) (C5 (An BH (Ah (AC (K:=K)) rfl (T.own _ (by decide)) boot_len (Aa (pv 3) Ab)) Af (Aq _))))) (Ae Bg) Ar)
      (Ae (Al (Ad c_numbers_told hr (Aa (pv 3) Ab)))))))),?_⟩
    walk_at "w";refine EE ra λ H1 p1 s1 n1 g1=> ?_;walk_at "w";row_lines H1 x2;refine DF (as:=Cw l) (bs:=["-"]) (SqL.of (s2 _ _ g1)) (SqL.of g2) ?_;walk_at "w";have g12:=s2 _ _ g1;refine A5 (λ h=> ?_) (λ h=> ?_)
    · have e:l=[]:=by
        rcases Classical.em (l=[]) with e | e
        · exact e
        · rw [show Cw l=l.map tN from if_neg e] at h;exact absurd rfl (L9 l16 "-" (by rw [h];exact List.mem_cons_self))
      subst e;walk_at "w";row_lines H2 x3;exact k H3 p3 (s1.trans (s2.trans s3)) (s1.free (s2.free n3)) g3
    · have e:l≠[]:=λ z=>h (by rw [z];rfl);rw [show Cw l=l.map tN from if_neg e] at g12;walk_at "w";refine BQ (SqL.of g12) ?_;rw [show Fn ((l.map tN).map V.str) none (some 1)=((l.map tN).take 1).map V.str by rw [Lg (by decide),List.map_take];rfl];row_lines H2 x3;walk_at "w";row_lines H3 x4;refine DF (as:=(l.map tN).take 1) (bs:=["-"]) (SqL.of (s4 _ _ g3)) (SqL.of g4) ?_;walk_at "w";refine A5 (λ q=>absurd rfl (L9 l16 "-" (List.mem_of_mem_take (by rw [q];exact List.mem_cons_self)))) (λ _=> ?_);walk_at "w";have g14:=(s3.trans s4) _ _ g12;have zl:∀ z∈l.map tN,z.length<=100:=λ z hz=>by
        obtain ⟨n,h1,rfl⟩:=List.mem_map.mp hz;exact (Dc (l16 n h1)).le
      refine ⟨p1,_,l,m,rfl,g14,by rw [List.length_map];omega,zl,GX l16,hri,λ H5 s5=> ?_⟩;have g15:=s5 _ _ g14;walk_at "w";refine Au (SqL.of g15) ?_;walk_at "w";refine A5 (λ q=>absurd q (by simp only [List.length_map];omega)) (λ _=> ?_);walk_at "w";refine Au (SqL.of g15) ?_;walk_at "w";rw [List.length_map,List.length_map];refine A5 (λ q=>absurd (List.length_eq_zero_iff.mp (by omega)) e) (λ _=> ?_);walk_at "w";refine ⟨p1,_,l,rfl,g15,by rw [List.length_map];omega,zl,GX l16,λ H6 p6 s6 n6 g6=> ?_⟩;have s16:=s2.trans (s3.trans (s4.trans (s5.trans s6)));exact k H6 p6 (s1.trans s16) (s1.free ((s2.trans (s3.trans (s4.trans s5))).free n6)) g6
def Bv (K:PySem.W.Frag) (fl:Addr) (sL:Sp):Sp:=λ vs H Q _=>∃ (a:Addr) (ws out:List Str) (n mx:Nat),vs=[.ref a,nV n,nV mx, .ref fl]/\Qs K sL H Q a ws out mx
noncomputable abbrev Dg:Stmt:=top 51
theorem Ir:FnScope ["words","number","most","fits","error"] ["words","number","most","fits"] (Ai Dg):=⟨rfl,rfl,rfl,by decide +kernel,rfl,by decide +kernel,by decide +kernel⟩
theorem HN {f:Addr} {fd:FuncData} {fl:Addr} {sL:Sp} (lv:LamV P w K mg base 6 fl sL) (F:Fun K "read_items" "read_items" Dg f fd) (T:Txt K mg c) (c_spread:CallF P w K mg base "spread" 8 ["words","most","fits"] (EC K fl sL)):FnOk P w K mg base CX0 9 f fd ["words","number","most","fits"] (Bv K fl sL):=by
  refine F.ok Ir (λ vs H Q E h=> ?_) (λ cdv A outer s H vs Q E hr h=> ?_)
  · obtain ⟨a,ws,out,n,mx,rfl,_⟩:=h;rfl
  · obtain ⟨a,ws,out,n,mx,rfl,sp⟩:=h;refine ⟨_,(Ae (Pr (λ _ _=>(Ae (Al (Ad c_spread hr (Aa (pv 0) (Aa (pv 2) (Aa (pv 3) Ab))))))))),?_⟩;walk_at "w";exact ⟨a,ws,out,mx,rfl,sp⟩
def CM (K:PySem.W.Frag) (t1 t2 t3:Addr):Sp:=λ vs H Q _=>∃ (a:Addr) (rs:List Str) (i:Nat) (ws:List Str) (ns:List Nat) (m:Nat),vs=[.ref a,nV (i+1),nV m]/\RowAt H a rs i "thread" ws/\MFew.Spr opn clS (λ z=>z∈ns.map tN) ws (ns.map tN)/\ns≠[]/\ns.length<=60/\m<=16/\(∀ n∈ns,n<=m)/\Tb t1 t2 t3 H/\∀ H' p,SmT t1 t2 t3 H H'->H p=none->H' p=some (.lst (ns.map nV))->Q (.ref p) H'
noncomputable abbrev Br:Stmt:=top 52
theorem sc_read_threading:FnScope ["rows","number","shafts","words","items"] ["rows","number","shafts"] (Ai Br):=⟨rfl,rfl,rfl,by decide +kernel,rfl,by decide +kernel,by decide +kernel⟩
theorem FI {f:Addr} {fd:FuncData} {cc:Addr} (hc:fd.code= .ref cc) (hd:PySem.W.CodeHd base cc TT1) (hbt:base.BuiltinsAt mg TT1) (F:Fun K "read_threading" "read_threading" Br f fd) (T:Txt K mg c) (c_words_behind:CallF P w K mg base "words_behind" 2 ["rows","number","name"] AU) (c_read_items:(∃ fs,mg "read_items"=some (.ref fs)/\PySem.W.keepIn K (.ref fs)=true)/\∀ (base':Heap) (fl:Addr) (sL:Sp),LamV P w K mg base' 6 fl sL->CallF P w K mg base' "read_items" 9 ["words","number","most","fits"] (Bv K fl sL)) (c_is_among:CallF P w K mg base "is_among" 2 ["thing","least","most"] (A3 K)) (c_number_of:CallF P w K mg base "number_of" 3 ["word"] Bs) (c_numbers_told:CallF P w K mg base "numbers_told" 4 ["words"] BB):FnOk P w K mg base CX0 10 f fd ["rows","number","shafts"] (CM K TT1 TT2 TT3):=by
  refine Fun.okL F hc sc_read_threading (λ vs H Q E h=> ?_) (λ A outer s H vs Q E hr h=> ?_)
  · obtain ⟨a,rs,i,ws,ns,m,rfl,_⟩:=h;rfl
  · obtain ⟨a,rs,i,ws,ns,m,rfl,ra,spr,hne,hl,hm,hns,tb,k⟩:=h;have hu:=hr.units0;have n16:∀ n∈ns,n<=16:=λ n hn=>Nat.le_trans (hns n hn) hm;refine ⟨_,(Ac (Am (i:=3) sc_read_threading.nd rfl (Or.inl rfl) (Ad c_words_behind (hr.mono (by decide)) (Aa (pv 0) (Aa (pv 1) (Aa Ao Ab)))))
      (Ac (Am (i:=4) sc_read_threading.nd rfl (Or.inl rfl) (LK (kb:=5) (y:="word") (N:=["shafts"]) (idx:=[2]) c_read_items.1 c_read_items.2 hr ⟨rfl,hd,hbt⟩ (pv 3) (pv 1) (DH T.k_MOST_ENDS) (λ _ _ _ _ _ _ _ _ hrL=>(Ad c_is_among (hrL.mono (by decide)) (Aa (Ad c_number_of (hrL.mono (by decide)) (Aa (pv 0) Ab)) (Aa Af (Aa (pv 1) Ab))))) (show BV _ _ _ ["rows","number","shafts","words","items"] (Ai Br).names=true by decide +kernel) (by decide +kernel)))
      (Ae (Al (Ad c_numbers_told (hr.mono (by decide)) (Aa (pv 4) Ab)))))),?_⟩
    walk_at "w";refine EE ra λ H1 p1 s1 n1 g1=> ?_;walk_at "w";refine Mb ?_;walk_at "w";refine ⟨(tb.same s1).l1,[nV m],rfl,λ i j hj=> ?_,λ H2 fl c' oc hT2 old hc2=> ?_⟩
    · match i,hj with
      | 0,hj=>
        cases hj;exact ⟨_,rfl,rfl⟩
    have x2:SmT TT1 TT2 TT3 H1 H2:=W6 (tb.same s1) hT2 old;have g2:=x2.lst g1;refine ⟨p1,ws,ns.map tN,_,60,rfl,LR (SqL.of g2) spr (λ z=>hne (by simpa using z)) (by rw [List.length_map];exact hl) (by decide) (λ z hz=> ?_) (λ z hz H3 Q' s3 q=> ?_) λ H3 p3 s3 n3 g3=> ?_⟩
    · obtain ⟨n,h1,rfl⟩:=List.mem_map.mp hz;exact Dc (n16 n h1)
    · obtain ⟨n,h1,rfl⟩:=List.mem_map.mp hz;refine ⟨_,rfl,s3 _ _ hc2,?_⟩;walk_at "w";refine ⟨_,rfl,(Dc (n16 n h1)).le,λ H4 s4=> ?_⟩;rw [Lm (n16 n h1)];walk_at "w";refine ⟨_,_,_,rfl,⟨_, .int _⟩,?_⟩;rw [am (by omega) (by have:=hns n h1;omega)];exact q H4 s4
    · walk_at "w";refine ⟨p3,_,ns,rfl,g3,by rw [List.length_map];omega,λ z hz=> ?_,GX n16,λ H4 p4 s4 n4 g4=> ?_⟩
      · obtain ⟨n,h1,rfl⟩:=List.mem_map.mp hz;exact (Dc (n16 n h1)).le
      have x4:=(SmT.of s1).trans (x2.trans (SmT.of (s3.trans s4)));exact k H4 p4 x4 (((SmT.of s1).trans (x2.trans (SmT.of s3))).free n4) g4
def C8 (K:PySem.W.Frag) (t1 t2 t3:Addr):Sp:=λ vs H Q _=>∃ (a:Addr) (rs:List Str) (i:Nat) (ws:List Str) (ls:List (List Nat)) (m:Nat),vs=[.ref a,nV (i+1),nV m]/\RowAt H a rs i "tread" ws/\MFew.Spr opn clS (λ z=>z∈ls.map AJ) ws (ls.map AJ)/\ls≠[]/\ls.length<=60/\m<=16/\(∀ l∈ls,EK 0 m l)/\Tb t1 t2 t3 H/\∀ H' p,SmT t1 t2 t3 H H'->H p=none->Rp H' (FN H) 2 (.ref p) (dLL ls)->Q (.ref p) H'
noncomputable abbrev Bz:Stmt:=top 55
theorem sc_read_treading:FnScope ["rows","number","treadles","words","items"] ["rows","number","treadles"] (Ai Bz):=⟨rfl,rfl,rfl,by decide +kernel,rfl,by decide +kernel,by decide +kernel⟩
theorem F4 {f:Addr} {fd:FuncData} {cc:Addr} (hc:fd.code= .ref cc) (hd:PySem.W.CodeHd base cc TT2) (hbt:base.BuiltinsAt mg TT2) (F:Fun K "read_treading" "read_treading" Bz f fd) (T:Txt K mg c) (c_words_behind:CallF P w K mg base "words_behind" 2 ["rows","number","name"] AU) (c_read_items:(∃ fs,mg "read_items"=some (.ref fs)/\PySem.W.keepIn K (.ref fs)=true)/\∀ (base':Heap) (fl:Addr) (sL:Sp),LamV P w K mg base' 6 fl sL->CallF P w K mg base' "read_items" 9 ["words","number","most","fits"] (Bv K fl sL)) (c_is_pick_word:CallF P w K mg base "is_pick_word" 5 ["word","treadles"] DI) (c_numbers_told:CallF P w K mg base "numbers_told" 4 ["words"] BB) (c_trodden_words:CallF P w K mg base "trodden_words" 1 ["word"] BO):FnOk P w K mg base CX0 10 f fd ["rows","number","treadles"] (C8 K TT1 TT2 TT3):=by
  refine Fun.okL F hc sc_read_treading (λ vs H Q E h=> ?_) (λ A outer s H vs Q E hr h=> ?_)
  · obtain ⟨a,rs,i,ws,ls,m,rfl,_⟩:=h;rfl
  · obtain ⟨a,rs,i,ws,ls,m,rfl,ra,spr,hne,hl,hm,hls,tb,k⟩:=h;have hu:=hr.units0;have n16:∀ l∈ls,∀ n∈l,n<=16:=λ l hl n hn=>Nat.le_trans (FL (hls l hl) n hn) hm;have l16:∀ l∈ls,l.length<=16:=λ l hl=>by have:=Ea (hls l hl) (Nat.zero_le _);omega
    have tw:∀ l∈ls,(EU (AJ l)).length<=100/\(∀ y∈EU (AJ l),y.length<=100)/\(EU (AJ l)).map C1=l.map nV:=λ l hl=>by
      rw [MP (n16 l hl)];refine ⟨by rw [List.length_map];have:=l16 l hl;omega,λ z hz=> ?_,GX (n16 l hl)⟩;obtain ⟨n,h1,rfl⟩:=List.mem_map.mp hz;exact (Dc (n16 l hl n h1)).le
    refine ⟨_,(Ac (Am (i:=3) sc_read_treading.nd rfl (Or.inl rfl) (Ad c_words_behind (hr.mono (by decide)) (Aa (pv 0) (Aa (pv 1) (Aa Ao Ab)))))
      (Ac (Am (i:=4) sc_read_treading.nd rfl (Or.inl rfl) (LK (kb:=5) (y:="word") (N:=["treadles"]) (idx:=[2]) c_read_items.1 c_read_items.2 hr ⟨rfl,hd,hbt⟩ (pv 3) (pv 1) (DH T.k_MOST_PICKS) (λ _ _ _ _ _ _ _ _ hrL=>(Ad c_is_pick_word (hrL.mono (by decide)) (Aa (pv 0) (Aa (pv 1) Ab)))) (show BV _ _ _ ["rows","number","treadles","words","items"] (Ai Bz).names=true by decide +kernel) (by decide +kernel)))
      (Ae (Al (AA (Bi (K:=K) (pv 4)) (λ _ _ _ _=>Ax) (λ _ _ _ _=>(Ad c_numbers_told (hr.mono (by decide)) (Aa (Ad c_trodden_words (hr.mono (by decide)) (Aa (pv 0) Ab)) Ab)))))))),?_⟩
    walk_at "w";refine EE ra λ H1 p1 s1 n1 g1=> ?_;walk_at "w";refine Mb ?_;walk_at "w";refine ⟨(tb.same s1).l2,[nV m],rfl,λ i j hj=> ?_,λ H2 fl c' oc hT2 old hc2=> ?_⟩
    · match i,hj with
      | 0,hj=>
        cases hj;exact ⟨_,rfl,rfl⟩
    have x2:SmT TT1 TT2 TT3 H1 H2:=W4 (tb.same s1) hT2 old;have g2:=x2.lst g1;refine ⟨p1,ws,ls.map AJ,_,60,rfl,LR (SqL.of g2) spr (λ z=>hne (by simpa using z)) (by rw [List.length_map];exact hl) (by decide) (λ z hz=> ?_) (λ z hz H3 Q' s3 q=> ?_) λ H3 p3 s3 n3 g3=> ?_⟩
    · obtain ⟨l,h1,rfl⟩:=List.mem_map.mp hz;exact G0 (n16 l h1) (l16 l h1)
    · obtain ⟨l,h1,rfl⟩:=List.mem_map.mp hz;refine ⟨_,rfl,s3 _ _ hc2,?_⟩;walk_at "w";obtain ⟨q1,q2,q3⟩:=tw l h1;exact ⟨_,l,m,rfl,Nat.le_trans (G0 (n16 l h1) (l16 l h1)).le (by decide),q1,q2,q3,hls l h1,q⟩
    · walk_at "w";refine ⟨p3,rfl,⟨_,SqL.of g3⟩,λ D hD=> ?_⟩;refine AL (m:=1) (G:=λ i=>dL (ls.getD i [])) (AH (SqL.of g3) rfl) hD (by rw [List.length_map,List.length_map];omega) ?_ ?_
      · intro i H' R hi s kk;rw [List.length_map,List.length_map] at hi;have hm':=L2.getD_mem (y:=[]) hi;rw [List.map_map,getD_map (e:=[]) hi];obtain ⟨q1,q2,q3⟩:=tw _ hm';walk_at "w";refine ⟨_,rfl,Nat.le_trans (G0 (n16 _ hm') (l16 _ hm')).le (by decide),λ H4 p4 s4 n4 g4=> ?_⟩;walk_at "w";refine ⟨p4,_,ls.getD i [],rfl,g4,q1,q2,q3,λ H5 p5 s5 n5 g5=> ?_⟩;exact kk H5 _ (s4.trans s5) (J3 g5 (s4.free n5) (by have:=l16 _ hm';omega))
      · intro H4 ys s4 hl4 r4;rw [List.length_map,List.length_map,NI] at r4;have x3:=(SmT.of s1).trans (x2.trans (SmT.of s3));have x4:=x3.trans (SmT.of s4);exact k H4 D x4 (x3.free hD) (r4.imp λ a ha=>x3.free ha)
def DL (K:PySem.W.Frag):Sp:=λ vs H Q _=>∃ (a:Addr) (rs:List Str) (i:Nat) (nm:Str) (ws zs:List Str),vs=[.ref a,nV (i+1), .str nm,nV zs.length]/\RowAt H a rs i nm ws/\MFew.Spr opn clS (λ z=>z∈zs) ws zs/\zs≠[]/\zs.length<=60/\(∀ z∈zs,Hv z)/\∀ H' p,Same H H'->H p=none->H' p=some (.lst (zs.map V.str))->Q (.ref p) H'
noncomputable abbrev Ck:Stmt:=top 56
theorem sc_read_colours:FnScope ["rows","number","name","many","words","colours"] ["rows","number","name","many"] (Ai Ck):=⟨rfl,rfl,rfl,by decide +kernel,rfl,by decide +kernel,by decide +kernel⟩
theorem GJ {f:Addr} {fd:FuncData} (F:Fun K "read_colours" "read_colours" Ck f fd) (T:Txt K mg c) (c_words_behind:CallF P w K mg base "words_behind" 2 ["rows","number","name"] AU) (c_read_items:(∃ fs,mg "read_items"=some (.ref fs)/\PySem.W.keepIn K (.ref fs)=true)/\∀ (base':Heap) (fl:Addr) (sL:Sp),LamV P w K mg base' 6 fl sL->CallF P w K mg base' "read_items" 9 ["words","number","most","fits"] (Bv K fl sL)) (c_is_colour:CallF P w K mg base "is_colour" 1 ["thing"] DB):FnOk P w K mg base CX0 10 f fd ["rows","number","name","many"] (DL K):=by
  refine F.ok sc_read_colours (λ vs H Q E h=> ?_) (λ cdv A outer s H vs Q E hr h=> ?_)
  · obtain ⟨a,rs,i,nm,ws,zs,rfl,_⟩:=h;rfl
  · obtain ⟨a,rs,i,nm,ws,zs,rfl,ra,spr,hne,hl,hc,k⟩:=h;have hu:=hr.units0;obtain ⟨fc,hfc,LC⟩:=c_is_colour.lam (k':=6) (by decide);refine ⟨_,(Ac (Am (i:=4) sc_read_colours.nd rfl (Or.inl rfl) (Ad c_words_behind (hr.mono (by decide)) (Aa (pv 0) (Aa (pv 1) (Aa (pv 2) Ab)))))
      (Ac (Am (i:=5) sc_read_colours.nd rfl (Or.inl rfl) (Ad (c_read_items.2 base fc _ LC) hr (Aa (pv 4) (Aa (pv 1) (Aa (pv 3) (Aa (To hfc) Ab))))))
      (Ac (AB (An Kx (Ah (AC (K:=K)) rfl (T.own _ (by decide)) boot_len (Aa (pv 5) Ab)) (pv 3) (Aq _)) (Ae Bg) Ar)
      (Ae (Al (pv 5)))))),?_⟩
    walk_at "w";refine EE ra λ H1 p1 s1 n1 g1=> ?_;walk_at "w";refine ⟨p1,ws,zs,_,_,rfl,LR (SqL.of g1) spr hne (Nat.le_refl _) hl (λ z hz=>Lq (hc z hz)) (λ z hz H3 Q' s3 q=>⟨_,rfl,hc z hz,q H3 (Same.refl _)⟩) λ H3 p3 s3 n3 g3=> ?_⟩;walk_at "w";refine Au (SqL.of g3) ?_;walk_at "w";rw [List.length_map];refine A5 (λ q=>absurd q (by omega)) (λ _=> ?_);walk_at "w";exact k H3 p3 (s1.trans s3) (s1.free n3) g3
theorem Qz {H:Hp} {a:Addr} {rows:List (List Str)} {i:Nat} {nm:Str} {ws:List Str} (h:H a=some (.lst ((rows.map (Txt.join " ")).map V.str))) (hr:∀ r∈rows,r≠[]/\(∀ z∈r,GB z)/\r.length<=181) (hl:rows.length<=1000) (e:rows[i]?=some (nm::ws)):RowAt H a (rows.map (Txt.join " ")) i nm ws:=by
  obtain ⟨hi,_⟩:=List.getElem?_eq_some_iff.mp e;obtain ⟨h1,h2,h3⟩:=hr _ (List.mem_of_getElem? e);have eg:(rows.map (Txt.join " ")).getD i ""=Txt.join " " (nm::ws):=by rw [List.getD_eq_getElem?_getD,List.getElem?_map,e];rfl
  refine ⟨h,by rw [List.length_map];exact hi,by rw [List.length_map];exact hl,?_,?_,GB.no h2⟩
  · rw [eg];have:=FE h2;omega
  · rw [eg];exact IM h1 h2
section
variable {d:Dr} (ok:DrOk d) {w1 w2 w3 w4:List Str}
include ok
theorem DrOk.at_tie {j:Nat} (h:j<d.tr):(AM d w1 w2 w3 w4)[3+j]?=some (("tie":Str)::Cw (d.ti.getD j [])):=by
  unfold AM;have hj:j<d.ti.length:=by rw [ok.il];exact h
  rw [List.getElem?_append_left (by rw [List.length_append,List.length_map];show 3+j<3+_;omega),List.getElem?_append_right (by show 3<=_;omega)];show (d.ti.map _)[3+j - 3]?=_;rw [show 3+j - 3=j by omega,List.getElem?_map,List.getElem?_eq_getElem hj,List.getD_eq_getElem?_getD,List.getElem?_eq_getElem hj];rfl
theorem DrOk.at_end {j:Nat}:(AM d w1 w2 w3 w4)[d.tr+3+j]?=[("tread":Str)::w2,("warp":Str)::w3,("weft":Str)::w4][j]?:=by
  unfold AM;have e:([[("shafts":Str),tN d.sh],[("treadles":Str),tN d.tr],("thread":Str)::w1]++d.ti.map (λ t=>("tie":Str)::Cw t)).length=d.tr+3:=by
    rw [List.length_append,List.length_map,ok.il];show 3+_=_;omega
  rw [List.getElem?_append_right (by rw [e];omega),e,show d.tr+3+j - (d.tr+3)=j by omega]
end
def CY (K:PySem.W.Frag) (c:Cs) (t1 t2 t3:Addr):Sp:=λ vs H Q _=>∃ (d:Dr) (w1 w2 w3 w4:List Str),vs=[.str (G3 (AM d w1 w2 w3 w4))]/\SprD d w1 w2 w3 w4/\DrOk d/\Tb t1 t2 t3 H/\∀ H' x,SmT t1 t2 t3 H H'->H x=none->DrAt c.Draft H' x d->Q (.ref x) H'
noncomputable abbrev Dw:Stmt:=top 57
theorem sc_read_draft:FnScope ["text","rows","shafts","treadles","threading","ties","treading","warp","weft"] ["text"] (Ai Dw):=⟨rfl,rfl,rfl,by decide +kernel,rfl,by decide +kernel,by decide +kernel⟩
theorem HS {f:Addr} {fd:FuncData} (F:Fun K "read_draft" "read_draft" Dw f fd) (T:Txt K mg c) (c_read_count:CallF P w K mg base "read_count" 4 ["rows","number","name","most"] CZ) (c_read_threading:CallF P w K mg base "read_threading" 10 ["rows","number","shafts"] (CM K TT1 TT2 TT3)) (c_read_tie:CallF P w K mg base "read_tie" 5 ["rows","number","shafts"] (Ge K)) (c_read_treading:CallF P w K mg base "read_treading" 10 ["rows","number","treadles"] (C8 K TT1 TT2 TT3)) (c_read_colours:CallF P w K mg base "read_colours" 10 ["rows","number","name","many"] (DL K)) (m_Draft:LH P w K mg base "Draft" c.Draft 6 ["self","shafts","treadles","threading","ties","treading","warp","weft"] (Bk c)):FnOk P w K mg base CX0 11 f fd ["text"] (CY K c TT1 TT2 TT3):=by
  refine F.ok sc_read_draft (λ vs H Q E h=> ?_) (λ cdv A outer s H vs Q E hr h=> ?_)
  · obtain ⟨d,w1,w2,w3,w4,rfl,_⟩:=h;rfl
  · obtain ⟨d,w1,w2,w3,w4,rfl,spr,ok,tb,k⟩:=h;have hu:=hr.units0;have rok:=ok.rows spr;have rl:=ok.rlen (w1:=w1) (w2:=w2) (w3:=w3) (w4:=w4);have t1':=ok.t1;have t2':=ok.t2;have s1':=ok.s1;have s2':=ok.s2;have ts:=G8 (rows:=AM d w1 w2 w3 w4) (λ z=>by rw [z] at rl;simp at rl) λ r hr=>⟨(rok r hr).1,(rok r hr).2.1⟩;have tl:=Kg (rows:=AM d w1 w2 w3 w4) (n:=181) λ r hr=>(rok r hr).2;have rw0:(AM d w1 w2 w3 w4)[0]?=some [("shafts":Str),tN d.sh]:=rfl;have rw1:(AM d w1 w2 w3 w4)[1]?=some [("treadles":Str),tN d.tr]:=rfl;have rw2:(AM d w1 w2 w3 w4)[2]?=some (("thread":Str)::w1):=rfl;have rt:∀ j,j<d.tr->(AM d w1 w2 w3 w4)[3+j]?=some (("tie":Str)::Cw (d.ti.getD j [])):=λ j hj=>ok.at_tie hj;have re3:(AM d w1 w2 w3 w4)[d.tr+3]?=some (("tread":Str)::w2):=ok.at_end (j:=0);have re4:(AM d w1 w2 w3 w4)[d.tr+4]?=some (("warp":Str)::w3):=ok.at_end (j:=1);have re5:(AM d w1 w2 w3 w4)[d.tr+5]?=some (("weft":Str)::w4):=ok.at_end (j:=2);refine ⟨_,(Ac (AB (BL (AT (Ah (A8 (K:=K)) rfl (T.own _ (by decide)) boot_isinstance (Aa (pv 0) (Aa (Bt rfl (T.own _ (by decide)) boot_str) Ab))))) (Ae Bg) Ar)
      (Ac (Am (i:=1) sc_read_draft.nd rfl (Or.inr rfl) (AW (K:=K) PySem.F.plainAttrs_str PySem.F.slot_str_split PySem.F.type_str_split FM (pv 0) (Aa Ao Ab)))
      (Ac (Am (i:=2) sc_read_draft.nd rfl (Or.inr rfl) (Ad c_read_count (hr.mono (by decide)) (Aa (pv 1) (Aa Af (Aa Ao (Aa (DH T.k_MOST_SHAFTS) Ab))))))
      (Ac (Am (i:=3) sc_read_draft.nd rfl (Or.inl rfl) (Ad c_read_count (hr.mono (by decide)) (Aa (pv 1) (Aa Af (Aa Ao (Aa (DH T.k_MOST_TREADLES) Ab))))))
      (Ac (Am (i:=4) sc_read_draft.nd rfl (Or.inl rfl) (Ad c_read_threading hr (Aa (pv 1) (Aa Af (Aa (pv 2) Ab)))))
      (Ac (Cu (i:=5) sc_read_draft.nd rfl (Or.inl rfl) (EB rfl (T.own _ (by decide)) (Aa Af (Aa (Ak Ay (pv 3) Af) Ab))) (λ _ _ _ _=>Ax) (λ _ _ _ _=>(Ad c_read_tie (hr.mono (by decide)) (Aa (pv 1) (Aa (Ak Ay Af (pv 0)) (Aa (pv 2) Ab))))))
      (Ac (Am (i:=6) sc_read_draft.nd rfl (Or.inl rfl) (Ad c_read_treading hr (Aa (pv 1) (Aa (Ak Ay (pv 3) Af) (Aa (pv 3) Ab)))))
      (Ac (Am (i:=7) sc_read_draft.nd rfl (Or.inl rfl) (Ad c_read_colours hr (Aa (pv 1) (Aa (Ak Ay (pv 3) Af) (Aa Ao (Aa (Ah (AC (K:=K)) rfl (T.own _ (by decide)) boot_len (Aa (pv 4) Ab)) Ab))))))
      (Ac (Am (i:=8) sc_read_draft.nd rfl (Or.inl rfl) (Ad c_read_colours hr (Aa (pv 1) (Aa (Ak Ay (pv 3) Af) (Aa Ao (Aa (Ah (AC (K:=K)) rfl (T.own _ (by decide)) boot_len (Aa (pv 6) Ab)) Ab))))))
      (Ac (AB (An DN (Ah (AC (K:=K)) rfl (T.own _ (by decide)) boot_len (Aa (pv 1) Ab)) (Ak Ay (pv 3) Af) (Aq _)) (Ae Bg) Ar)
      (Ae (Al (J2 m_Draft (hr.mono (by decide)) (Aa (pv 2) (Aa (pv 3) (Aa (pv 4) (Aa (pv 5) (Aa (pv 6) (Aa (pv 7) (Aa (pv 8) Ab)))))))))))))))))))),?_⟩
    walk_at "w";refine AN (.str _) (kb (b:=true) (by decide +kernel)) ?_;walk_at "w";refine tyS ?_;walk_at "w";refine ⟨_,_,rfl,rfl,by decide,by unfold G3;rw [sizeLine_eq];omega,?_⟩;rw [show Txt.split (G3 (AM d w1 w2 w3 w4)) (Str.ofString "\n")=(AM d w1 w2 w3 w4).map (Txt.join " ") from ts];row_lines H x1;generalize AM d w1 w2 w3 w4=rows at rok rl rw0 rw1 rw2 rt re3 re4 re5 g1;have RA:∀ {H':Hp} {i:Nat} {nm:Str} {ws:List Str},SmT TT1 TT2 TT3 H1 H'->rows[i]?=some (nm::ws)->RowAt H' p1 (rows.map (Txt.join " ")) i nm ws:=λ x e=>Qz (x.lst g1) rok (by omega) e;have cnt:∀ {H':Hp} {Q':VK} {i:Nat} {nm:Str} {n:Nat},SmT TT1 TT2 TT3 H1 H'->rows[i]?=some [nm,tN n]->1<=n->n<=16->(∀ H'',Same H' H''->Q' (nV n) H'')->CZ [.ref p1,nV (i+1), .str nm,nV 16] H' Q' E0:=λ {H' Q' i nm n} x e h1 h2 q=>by
      have r:=RA x e;exact ⟨p1,_,i,nm,tN n,n,16,rfl,r.at',r.lt,r.le,r.len,r.sp,r.no,(Dc h2).le,Lm h2,h1,h2,q⟩
    walk_at "w";refine cnt (i:=0) (SmT.of (Same.refl _)) rw0 s1' s2' λ H2 s2=> ?_;walk_at "w";refine cnt (i:=1) (SmT.of s2) rw1 t1' t2' λ H3 s3=> ?_;walk_at "w";have x3:SmT TT1 TT2 TT3 H1 H3:=SmT.of (s2.trans s3);refine ⟨p1,_,2,w1,d.th,d.sh,rfl,RA x3 rw2,spr.a1,λ z=>by have:=ok.h1;rw [z] at this;simp at this,ok.h2,s2',ok.hs,x3.tb (tb.same s1),λ H4 p4 x4 n4 g4=> ?_⟩;have x14:=x3.trans x4;walk_at "w";refine ⟨_,_,rfl,⟨by decide,by decide,by omega,by omega⟩,λ D5 hD5=> ?_⟩;rw [show (((d.tr:Nat):Int)+1 - 1).toNat=d.tr by omega];refine AL (m:=1) (G:=λ i=>dL (d.ti.getD i [])) (IW rfl) hD5 (by omega) ?_ ?_
    · intro i H' R hi s kk;have hm:=L2.getD_mem (y:=[]) (show i<d.ti.length by rw [ok.il];exact hi);walk_at "w";rw [show (3:Int)+(1+((i:Nat):Int))=(((3+i)+1:Nat):Int) by omega];exact ⟨p1,_,3+i,d.ti.getD i [],d.sh,rfl,RA (x14.trans (SmT.of s)) (rt i hi),Eu (ok.ir _ hm),s2',λ H5 p5 s5 n5 g5=>kk H5 _ s5 (J3 g5 n5 (by have:=ok.tiL _ hm;omega))⟩
    intro H5 ys5 s5 hl5 r5;rw [show ((List.range d.tr).map λ i=>dL (d.ti.getD i []))=d.ti.map dL by rw [<-ok.il];exact AX] at r5;have x15:=x14.trans (SmT.of s5);walk_at "w";rw [show ((d.tr:Nat):Int)+4=(((d.tr+3)+1:Nat):Int) by omega];refine ⟨p1,_,d.tr+3,w2,d.td,d.tr,rfl,RA x15 re3,spr.a2,λ z=>by have:=ok.p1;rw [z] at this;simp at this,ok.p2,t2',λ l hl=>Eu (ok.pr l hl),x15.tb (tb.same s1),λ H6 p6 x6 n6 r6=> ?_⟩;have x16:=x15.trans x6;have g46:=x6.lst (s5 _ _ g4);walk_at "w";refine Au (SqL.of g46) ?_;walk_at "w";rw [List.length_map, <-ok.wl,show ((d.tr:Nat):Int)+5=(((d.tr+4)+1:Nat):Int) by omega];refine ⟨p1,_,d.tr+4,"warp",w3,d.wa,rfl,RA x16 re4,spr.a3,ok.n3,by have:=ok.wl;have:=ok.h2;omega,ok.wc,λ H7 p7 s7 n7 g7=> ?_⟩;walk_at "w";obtain ⟨m6,a6,vs6,em6,ea6,ha6,_,hl6,_,_⟩:=C4 (r6.same s7);cases ea6;rw [List.length_map] at hl6;refine Au (SqL.of ha6) ?_;walk_at "w";rw [hl6, <-ok.fl,show ((d.tr:Nat):Int)+6=(((d.tr+5)+1:Nat):Int) by omega];refine ⟨p1,_,d.tr+5,"weft",w4,d.we,rfl,RA (x16.trans (SmT.of s7)) re5,spr.a4,ok.n4,by have:=ok.fl;have:=ok.p2;omega,ok.fc,λ H8 p8 s8 n8 g8=> ?_⟩;have x18:=x16.trans (SmT.of (s7.trans s8));walk_at "w";refine Au (SqL.of (x18.lst g1)) ?_;walk_at "w";rw [List.length_map,List.length_map];refine A5 (λ q=>absurd q (by omega)) (λ _=> ?_);walk_at "w";have s78:=s7.trans s8;refine LS (d:=d) ⟨_,_,_,_,_,rfl,s78 _ _ g46,(x6.rp r5).any.same s78,r6.any.same s78,s8 _ _ g7,g8⟩ ok λ H9 x s9 hx D9=> ?_;exact k H9 x ((SmT.of s1).trans (x18.trans (SmT.of s9))) (((SmT.of s1).trans x18).free hx) D9
def Fq (c:Cs):Sp:=λ vs H Q _=>∃ v d,vs=[v]/\Rp H FT 3 v (dDr d)/\DrOk d/\∀ H' x,Same H H'->H x=none->DrAt c.Draft H' x d->Q (.ref x) H'
noncomputable abbrev Ep:Stmt:=top 70
theorem sc__law_made:FnScope ["_law_parts","_law_shafts","_law_treadles","_law_threading","_law_ties","_law_treading","_law_warp","_law_weft"] ["_law_parts"] (Ai Ep):=⟨rfl,rfl,rfl,by decide +kernel,rfl,by decide +kernel,by decide +kernel⟩
theorem Jy {f:Addr} {fd:FuncData} (F:Fun K "_law_made" "_law_made" Ep f fd) (T:Txt K mg c) (m_Draft:LH P w K mg base "Draft" c.Draft 6 ["self","shafts","treadles","threading","ties","treading","warp","weft"] (Bk c)):FnOk P w K mg base CX0 8 f fd ["_law_parts"] (Fq c):=by
  refine F.ok sc__law_made (λ vs H Q E h=> ?_) (λ cdv A outer s H vs Q E hr h=> ?_)
  · obtain ⟨v,d,rfl,_⟩:=h;rfl
  · obtain ⟨v,d,rfl,r1,ok,k⟩:=h;obtain ⟨m,a,v0,v1,v2,v3,v4,v5,v6,em,rfl,ha,q0,q1,q2,q3,q4,q5,q6⟩:=JJ r1;cases em;cases q0;cases q1;obtain ⟨b2,rfl,e2,_,_⟩:=Gr q2;obtain ⟨b5,rfl,e5,_,_⟩:=IZ q5;obtain ⟨b6,rfl,e6,_,_⟩:=IZ q6;refine ⟨_,(Ac (QI (pv 0) (Jj (K:=K) rfl (AY (AK (i:=1) sc__law_made.nd rfl (Or.inl rfl)) (AY (AK (i:=2) sc__law_made.nd rfl (Or.inl rfl)) (AY (AK (i:=3) sc__law_made.nd rfl (Or.inl rfl)) (AY (AK (i:=4) sc__law_made.nd rfl (Or.inl rfl)) (AY (AK (i:=5) sc__law_made.nd rfl (Or.inl rfl)) (AY (AK (i:=6) sc__law_made.nd rfl (Or.inl rfl)) (AY (AK (i:=7) sc__law_made.nd rfl (Or.inl rfl)) Ft)))))))))
      (Ae (Al (J2 m_Draft hr (Aa (pv 1) (Aa (pv 2) (Aa (pv 3) (Aa (pv 4) (Aa (pv 5) (Aa (pv 6) (Aa (pv 7) Ab))))))))))),?_⟩
    walk_at "w";refine OA (SqT.of ha) rfl ?_;walk_at "w";exact LS ⟨_,_,_,_,_,rfl,e2,q3.any,q4.any,e5,e6⟩ ok k
def FA (K:PySem.W.Frag):Sp:=λ vs H Q _=>∃ (a:Addr) (ns:List Nat),vs=[.ref a]/\H a=some (.lst (ns.map nV))/\ns.length<=16/\(∀ n∈ns,n<=16)/\∀ H',Same H H'->Q (.str (AJ ns)) H'
theorem LN {K:PySem.W.Frag} {H:Hp} {Q:VK} {l p:Addr} {ns:List Nat} (c:SqL K H l (ns.map nV)) (d:SqL K H p []) (h:Q (.bl (decide (ns=[]))) H):JH K false (.ref l) (.ref p) H Q:=
  ⟨l,p,_,_,rfl,rfl,c,d,by simp [Bf],by simp [Bf],by cases ns <;> exact h⟩
theorem F5 {n:Nat} (h:n<=1000):(((n:Nat):Int)).natAbs.log2<1920:=by
  have:Nat.log2 n<=n:=Nat.log2_le_self n;show Nat.log2 n<1920;omega
noncomputable abbrev DS:Stmt:=top 67
theorem Jw:FnScope ["_law_pick_here"] ["_law_pick_here"] (Ai DS):=⟨rfl,rfl,rfl,by decide +kernel,rfl,by decide +kernel,by decide +kernel⟩
theorem JQ {f:Addr} {fd:FuncData} (F:Fun K "_law_pick" "_law_pick" DS f fd) (T:Txt K mg c):FnOk P w K mg base CX0 1 f fd ["_law_pick_here"] (FA K):=by
  refine F.ok Jw (λ vs H Q E h=> ?_) (λ cdv A outer s H vs Q E hr h=> ?_)
  · obtain ⟨a,ns,rfl,_⟩:=h;rfl
  · obtain ⟨a,ns,rfl,ha,hl,hn,k⟩:=h;have hu:=hr.units0;refine ⟨_,(Ae (Al (C9 (An (Gh hu (K:=K)) (pv 0) (Aw Ab) (Aq _)) Ao (AW (K:=K) PySem.F.plainAttrs_str PySem.F.slot_str_join PySem.F.type_str_join (Gc (K:=K)) Ao (Aa (AA (Bi (K:=K) (pv 0)) (λ _ _ _ _=>Ax) (λ _ _ _ _=>(Av Hs rfl (T.own _ (by decide)) boot_str (Aa (pv 0) Ab)))) Ab))))),?_⟩;walk_at "w";row_lines H x1;refine LN (SqL.of (s1 _ _ ha)) (SqL.of g1) ?_;walk_at "w";refine A5 (λ h=> ?_) (λ h=> ?_)
    · have:=k H1 s1;unfold AJ at this;rw [if_pos h] at this;exact this
    · walk_at "w";refine tyS ?_;walk_at "w";have ha1:=s1 _ _ ha;refine ⟨a,rfl,⟨_,SqL.of ha1⟩,λ D hD=> ?_⟩;refine BF (G:=λ i=>tN (ns.getD i 0)) (AH (SqL.of ha1) rfl) hD (by rw [List.length_map];omega) ?_ ?_
      · intro i H' R hi s kk;rw [List.length_map] at hi;rw [getD_map (e:=0) hi];walk_at "w";refine ⟨_,rfl,F5 (Nat.le_trans (hn _ (L2.getD_mem hi)) (by decide)),kk H' (Same.refl _)⟩
      intro H2 s2 g2;rw [List.length_map,AX] at g2;walk_at "w";refine ⟨_,D,ns.map tN,rfl,rfl,SqL.of g2,?_,?_⟩
      · have:=Ew (zs:=ns.map tN) (c:=2) (λ z hz=>by
          obtain ⟨n,h1,rfl⟩:=List.mem_map.mp hz;exact Nn n (Nat.lt_succ_of_le (hn n h1)))
        rw [List.length_map] at this ⊢;show _+ns.length*1<=_;omega
      · have:=k H2 (s1.trans s2);unfold AJ at this;rw [if_neg h] at this;exact this
def CT:Sp:=λ vs H Q _=>∃ (a:Addr) (xs:List Str) (i sz t:Nat),vs=[.ref a,nV i,nV sz,nV t]/\H a=some (.lst (xs.map V.str))/\i<=60/\sz<=3/\t<=100/\∀ H',Same H H'->Q (.bl (decide (MFew.sl xs (i+sz*t) (i+sz*t+sz)=MFew.sl xs i (i+sz)))) H'
noncomputable abbrev Ds:Stmt:=top 68
theorem sc__law_again:FnScope ["_law_items","_law_at","_law_size","_law_times","_law_here"] ["_law_items","_law_at","_law_size","_law_times"] (Ai Ds):=⟨rfl,rfl,rfl,by decide +kernel,rfl,by decide +kernel,by decide +kernel⟩
theorem Ia {f:Addr} {fd:FuncData} (F:Fun K "_law_again" "_law_again" Ds f fd) (T:Txt K mg c):FnOk P w K mg base CX0 1 f fd ["_law_items","_law_at","_law_size","_law_times"] CT:=by
  refine F.ok sc__law_again (λ vs H Q E h=> ?_) (λ cdv A outer s H vs Q E hr h=> ?_)
  · obtain ⟨a,xs,i,sz,t,rfl,_⟩:=h;rfl
  · obtain ⟨a,xs,i,sz,t,rfl,ha,hi,hs,ht,k⟩:=h;have hu:=hr.units0;refine ⟨_,(Ac (Am (i:=4) sc__law_again.nd rfl (Or.inl rfl) (Ak Ay (pv 1) (Ak EW (pv 2) (pv 3))))
      (Ae (Al (A6 (Gh hu (K:=K)) (A0 (C7 (K:=K)) (pv 0) (AV (pv 4)) (AV (Ak Ay (pv 4) (pv 2)))) (A0 (C7 (K:=K)) (pv 0) (AV (pv 1)) (AV (Ak Ay (pv 1) (pv 2)))) (Aq _))))),?_⟩
    walk_at "w";refine AR (.inl ⟨by omega,by omega⟩) ?_;walk_at "w";rw [show ((i:Nat):Int)+((sz:Nat):Int)*((t:Nat):Int)=((i+sz*t:Nat):Int) by push_cast;rfl];refine BQ (SqL.of ha) ?_;rw [show ((i+sz*t:Nat):Int)+((sz:Nat):Int)=((i+sz*t+sz:Nat):Int) by push_cast;rfl,FR (by omega)];row_lines H x1;walk_at "w";refine BQ (SqL.of (s1 _ _ ha)) ?_;rw [show ((i:Nat):Int)+((sz:Nat):Int)=((i+sz:Nat):Int) by push_cast;rfl,FR (by omega)];row_lines H1 x2;refine DF (SqL.of (s2 _ _ g1)) (SqL.of g2) ?_;exact k H2 (s1.trans s2)
theorem LX {c:TT} {tb:TS} {D:Ends} {σ:L2.St} {H:Hp} (W:Nat->L2.St->Hp->Prop) (P:L2.St->Hp->Prop) (m0:Nat) (w0:W m0 σ H) (fin:∀ σ H,P σ H->D.nx σ H) (turn:(∀ σ H,P σ H->D.nx σ H)->∀ m σ H,W m σ H->c σ H λ b H1=>if b=true then ∃ N:L2.St->Hp->Prop,(∀ σ' H',N σ' H'->∃ m',m'<m/\W m' σ' H')/\tb { D with nx:=N,ct:=N,bk:=D.nx } σ H1 else D.nx σ H1):NP c tb D σ H:=⟨W,⟨m0,w0⟩,turn fin⟩
theorem G7 {pl:Str->Prop}:∀ {l:List Str},(∀ z∈l,pl z)->MFew.Spr opn clS pl l l
  | [],_=> .nil
  | z::l,h=> .one z (h z List.mem_cons_self) (G7 λ y hy=>h y (List.mem_cons_of_mem _ hy))
theorem QF {xs:List Str} {i j:Nat} {z:Str} (h:z∈MFew.sl xs i j):z∈xs:=List.mem_of_mem_drop (List.mem_of_mem_take h)
theorem RN {xs:List Str} {i sz t:Nat} (h:MFew.Blk xs i sz t) (hi:i<xs.length) (hs:1<=sz) (ht:1<=t):i+sz*(t - 1)<xs.length:=by
  have e:=congrArg List.length (h (t - 1) (by omega));unfold MFew.sl at e;rw [List.length_take,List.length_take,List.length_drop,List.length_drop] at e;omega
theorem QQ {xs:List Str} {i sz t:Nat} (h:MFew.Blk xs i sz t) (hi:i+sz<=xs.length) (ht:1<=t) (hs:1<=sz):i+sz*t<=xs.length:=by
  have e:=congrArg List.length (h (t - 1) (by omega));unfold MFew.sl at e;rw [List.length_take,List.length_take,List.length_drop,List.length_drop] at e;have:sz*t=sz*(t - 1)+sz:=by
    obtain ⟨s,rfl⟩:∃ s,t=s+1:=⟨t - 1,by omega⟩;rw [Nat.add_sub_cancel,Nat.mul_succ]
  omega
theorem Px {xs ws:List Str} {i:Nat} (h:MFew.Spr opn clS (λ z=>z∈xs) ws (MFew.sl xs 0 i)) (hi:i<xs.length):MFew.Spr opn clS (λ z=>z∈xs) (ws++[xs.getD i ""]) (MFew.sl xs 0 (i+1)):=by
  rw [<-MFew.sl_app (xs:=xs) (i:=0) (m:=i) (j:=i+1) (by omega) (by omega),MFew.sl_cons (xs:=xs) (i:=i) (j:=i+1) (by omega) (by omega),MFew.sl_nil];rw [show xs.getD i ""=xs[i] by rw [List.getD_eq_getElem?_getD,List.getElem?_eq_getElem hi];rfl];exact h.app (.one _ (List.getElem_mem hi) .nil)
theorem OO {xs ws:List Str} {i sz t:Nat} (h:MFew.Spr opn clS (λ z=>z∈xs) ws (MFew.sl xs 0 i)) (b:MFew.Blk xs i sz t) (hs:1<=sz) (ht:2<=t) (hi:i+sz*t<=xs.length) (h60:xs.length<=60):MFew.Spr opn clS (λ z=>z∈xs) (ws++[opn t]++MFew.sl xs i (i+sz)++[clS]) (MFew.sl xs 0 (i+sz*t)):=by
  have m1:1*t<=sz*t:=Nat.mul_le_mul_right _ hs;have m2:sz*2<=sz*t:=Nat.mul_le_mul_left _ ht;rw [<-MFew.sl_app (xs:=xs) (i:=0) (m:=i) (j:=i+sz*t) (by omega) (by omega),MFew.blk_rep b];have g:=MFew.Spr.grp (opn:=opn) (cls:=clS) (plain:=λ z=>z∈xs) t ht (by omega) (u:=MFew.sl xs i (i+sz)) (λ z=>by have:=MFew.sl_len (xs:=xs) (i:=i) (j:=i+sz) (by omega);rw [z] at this;simp at this;omega) (G7 λ z hz=>QF hz) .nil;rw [List.append_nil] at g;have:=h.app g;simpa [List.append_assoc] using this
theorem Pn {pl pl':Str->Prop} (i:∀ z,pl z->pl' z) {ws l:List Str} (h:MFew.Spr opn clS pl ws l):MFew.Spr opn clS pl' ws l:=by
  induction h with
  | nil=>exact .nil
  | one x px _ ih=>exact .one x (i _ px) ih
  | grp t t2 t60 hu _ _ ih1 ih2=>exact .grp t t2 t60 hu ih1 ih2
theorem Nm {xs us ws:List Str} (e:xs=us++us) (hu:us≠[]) (h:MFew.Spr opn clS (λ z=>z∈us) ws us):MFew.Spr opn clS (λ z=>z∈xs) ([opn 2]++ws++[clS]) xs:=by
  have h':MFew.Spr opn clS (λ z=>z∈xs) ws us:=Pn (λ z hz=>by rw [e];exact List.mem_append_left _ hz) h;have g:=MFew.Spr.grp (opn:=opn) (cls:=clS) (plain:=λ z=>z∈xs) 2 (Nat.le_refl _) (by decide) hu h' .nil;rw [List.append_nil] at g;have e2:MFew.rep us 2=xs:=by rw [e];simp [MFew.rep]
  rw [e2] at g;simpa using g
theorem ifK {c:TT} {t u:TS} {D:Ends} {σ:L2.St} {H:Hp} (h2:(∀ H',Same H H'->t D σ H')->MF c t u D σ H) (h1:∀ H',Same H H'->t D σ H'):MF c t u D σ H:=h2 h1
theorem PL {us:List Str} {i:Nat}:Fn (us.map V.str) none (some ((i:Nat):Int))=(us.take i).map V.str:=by rw [Lg (by omega),Int.toNat_natCast,List.map_take]
theorem W9:opn 2=("2(":Str):=by decide +kernel
def By:Nat->Sp
  | 0=>λ _ _ _ _=>False
  | n+1=>λ vs H Q _=>∃ (a:Addr) (xs:List Str) (x:Int),vs=[.ref a, .int x]/\H a=some (.lst (xs.map V.str))/\xs≠[]/\xs.length<=60/\xs.length<2 ^ (n+1)/\∀ H' p ws,Same H H'->H p=none->H' p=some (.lst (ws.map V.str))->MFew.Spr opn clS (λ z=>z∈xs) ws xs->Q (.ref p) H'
noncomputable abbrev BK:Stmt:=top 69
theorem sc__law_grouped:FnScope ["_law_items","_law_number","_law_half","_law_words","_law_at","_law_size","_law_times"] ["_law_items","_law_number"] (Ai BK):=⟨rfl,rfl,rfl,by decide +kernel,rfl,by decide +kernel,by decide +kernel⟩
theorem F8 {n:Nat} {f:Addr} {fd:FuncData} (F:Fun K "_law_grouped" "_law_grouped" BK f fd) (T:Txt K mg c) (c__law_mixed:CallF P w K mg base "_law_mixed" 1 ["_law_cell","_law_k"] Bx) (c__law_again:CallF P w K mg base "_law_again" 1 ["_law_items","_law_at","_law_size","_law_times"] CT) (c__law_grouped:CallF P w K mg base "_law_grouped" (n+1) ["_law_items","_law_number"] (By n)):FnOk P w K mg base CX0 (n+2) f fd ["_law_items","_law_number"] (By (n+1)):=by
  refine F.ok sc__law_grouped (λ vs H Q E h=> ?_) (λ cdv A outer s H vs Q E hr h=> ?_)
  · obtain ⟨a,xs,x,rfl,_⟩:=h;rfl
  · obtain ⟨a,xs,x,rfl,ha,hne,h60,hlt,k⟩:=h;have hu:=hr.units0;have hlen:=List.length_pos_iff.mpr hne;refine ⟨_,(Ac (Am (i:=2) sc__law_grouped.nd rfl (Or.inl rfl) (Ak Ci (Ah (AC (K:=K)) rfl (T.own _ (by decide)) boot_len (Aa (pv 0) Ab)) Af))
      (Ac (AB (PW.pt (En (An BH (Ak Be (pv 1) Af) Af (Aq _)) (En (An DN (pv 2) Af (Aq _)) (Ez (An (Gh hu (K:=K)) (pv 0) (Ak JD (A0 (C7 (K:=K)) (pv 0) Ca (AV (pv 2))) Af) (Aq _)))))) (Ae (Al (Ak (Bw (K:=K)) (Ak (Bw (K:=K)) (Aw (Aa Ao Ab)) (Ad c__law_grouped hr (Aa (A0 (C7 (K:=K)) (pv 0) Ca (AV (pv 2))) (Aa (Ak Ci (pv 1) Af) Ab)))) (Aw (Aa Ao Ab))))) Ar)
      (Ac (Am (i:=3) sc__law_grouped.nd rfl (Or.inl rfl) (Aw Ab))
      (Ac (Am (i:=4) sc__law_grouped.nd rfl (Or.inl rfl) Af)
      (Ac (JX PassesOwn.never (An Kx (pv 4) (Ah (AC (K:=K)) rfl (T.own _ (by decide)) boot_len (Aa (pv 0) Ab)) (Aq _)) (Ac (Am (i:=5) sc__law_grouped.nd rfl (Or.inl rfl) (Ak Ay Af (Ak Be (Ak Ci (pv 1) Af) Af)))
      (Ac (Am (i:=1) sc__law_grouped.nd rfl (Or.inl rfl) (Ad c__law_mixed (hr.mono (by omega)) (Aa (pv 1) (Aa (pv 4) Ab))))
      (Ac (Am (i:=6) sc__law_grouped.nd rfl (Or.inl rfl) Af)
      (Ac (JX PassesOwn.never (PW.pt (En (An BH (Ak Be (pv 1) Af) Af (Aq _)) (Ez (AT (Ad c__law_again (hr.mono (by omega)) (Aa (pv 0) (Aa (pv 4) (Aa (pv 5) (Aa (pv 6) Ab))))))))) (Ae (Am (i:=6) sc__law_grouped.nd rfl (Or.inl rfl) (Ak Ay (pv 6) Af))))
      (Ae (AB (PW.pt (EH (An BH (pv 6) Af (Aq _)) (C5 (An DN (Ak Ay (pv 4) (pv 5)) (Ah (AC (K:=K)) rfl (T.own _ (by decide)) boot_len (Aa (pv 0) Ab)) (Aq _))))) (Ac (Az (AW (K:=K) PySem.F.plainAttrs_list PySem.F.slot_list_append PySem.F.type_list_append AO (pv 3) (Aa (Ba (CI (K:=K)) (pv 0) (pv 4) (λ _ _=>rfl)) Ab)))
      (Ae (Am (i:=4) sc__law_grouped.nd rfl (Or.inl rfl) (Ak Ay (pv 4) Af)))) (Ac (Am (i:=3) sc__law_grouped.nd rfl (Or.inl rfl) (Ak (Bw (K:=K)) (Ak (Bw (K:=K)) (Ak (Bw (K:=K)) (pv 3) (Aw (Aa (Ak G1 (Av Hs rfl (T.own _ (by decide)) boot_str (Aa (pv 6) Ab)) Ao) Ab))) (A0 (C7 (K:=K)) (pv 0) (AV (pv 4)) (AV (Ak Ay (pv 4) (pv 5))))) (Aw (Aa Ao Ab))))
      (Ae (Am (i:=4) sc__law_grouped.nd rfl (Or.inl rfl) (Ak Ay (pv 4) (Ak EW (pv 5) (pv 6)))))))))))))
      (Ae (Al (pv 3)))))))),?_⟩
    walk_at "w";refine Au (SqL.of ha) ?_;walk_at "w";rw [List.length_map];refine AR ⟨by decide,by decide⟩ ?_;rw [show ((xs.length:Nat):Int) / 2=((xs.length / 2:Nat):Int) by omega];walk_at "v";refine ifJ (λ σ' H'=>σ'=[some (.ref a),some (.int x),some (nV (xs.length / 2)),none,none,none,none]/\Same H H') ?_ (λ key=> ?_);rotate_left
    · walk_at "w";refine AR (by decide) ?_;walk_at "w";refine A5 (λ _=> ?_) (λ _=>key _ _ ⟨rfl,Same.refl _⟩);walk_at "w";refine A5 (λ h2=> ?_) (λ _=>key _ _ ⟨rfl,Same.refl _⟩);walk_at "w";refine BQ (SqL.of ha) ?_;rw [PL];row_lines H x1;walk_at "w";refine JO g1 (by decide) (by decide) (by rw [List.length_map,List.length_take];omega) ?_;rw [show (List.replicate ((2:Int).toNat) ((xs.take (xs.length / 2)).map V.str)).flatten=(xs.take (xs.length / 2)++xs.take (xs.length / 2)).map V.str by rw [List.map_append];simp [List.replicate]];row_lines H1 x2;refine DF (SqL.of ((s1.trans s2) _ _ ha)) (SqL.of g2) ?_;walk_at "w";refine A5 (λ he=> ?_) (λ _=>key _ _ ⟨rfl,s1.trans s2⟩);walk_at "w";row_lines H2 x3;walk_at "w";have s13:=s1.trans (s2.trans s3);refine BQ (SqL.of (s13 _ _ ha)) ?_;rw [PL];row_lines H3 x4;walk_at "w";refine AR ⟨by decide,by decide⟩ ?_;have hlt':xs.length<2 ^ n*2:=by rw [<-Nat.pow_succ];exact hlt
      have hl2:(xs.take (xs.length / 2)).length=xs.length / 2:=by rw [List.length_take];omega
      obtain ⟨n',rfl⟩:∃ n',n=n'+1:=by
        cases n with
        | zero=>exfalso;omega
        | succ n'=>exact ⟨n',rfl⟩
      walk_at "w";refine ⟨p4,xs.take (xs.length / 2),_,rfl,g4,λ z=>by rw [z] at hl2;simp at hl2;omega,by omega,by omega,λ H5 p5 ws s5 n5 g5 spr=> ?_⟩;have sl5:=BJ spr;refine Ec (xs:=["2("]) ((s4.trans s5) _ _ g3) g5 (by show 1+_<=_;omega) ?_;row_lines H5 x6;walk_at "w";row_lines H6 x7;refine Ec (ys:=[")"]) (s7 _ _ g6) g7 (by rw [List.length_append];show 1+_+1<=_;omega) ?_;row_lines H7 x8;have s18:=s13.trans (s4.trans (s5.trans (s6.trans s7)));refine k H8 p8 _ (s18.trans s8) (s18.free n8) g8 ?_;have:=Nm he (λ z=>by rw [z] at hl2;simp at hl2;omega) spr;rw [W9] at this;exact this
    rintro _ H1 ⟨rfl,s1⟩;walk_at "w";row_lines H1 x2;walk_at "w";have s02:=s1.trans s2;have n02:=s1.free n2;refine LX (λ m σ H'=>∃ (wp:Addr) (ws:List Str) (i:Nat) (x:Int) (x5 x6:Option V),σ=[some (.ref a),some (.int x),some (nV (xs.length / 2)),some (.ref wp),some (nV i),x5,x6]/\i<=xs.length/\m=xs.length - i/\Same H H'/\H wp=none/\H' wp=some (.lst (ws.map V.str))/\MFew.Spr opn clS (λ z=>z∈xs) ws (MFew.sl xs 0 i)) (λ σ H'=>∃ (wp:Addr) (ws:List Str) (x:Int) (x4 x5 x6:Option V),σ=[some (.ref a),some (.int x),some (nV (xs.length / 2)),some (.ref wp),x4,x5,x6]/\Same H H'/\H wp=none/\H' wp=some (.lst (ws.map V.str))/\MFew.Spr opn clS (λ z=>z∈xs) ws xs) xs.length ⟨p2,[],0,x,none,none,rfl,Nat.zero_le _,rfl,s02,n02,g2,by rw [MFew.sl_nil];exact .nil⟩ ?_ (λ key=> ?_)
    · rintro _ H3 ⟨wp,ws,x',x4,x5,x6,rfl,s3,n3,g3,spr⟩;walk_at "w";exact k H3 wp ws s3 n3 g3 spr
    rintro m _ H3 ⟨wp,ws,i,x',x5,x6,rfl,hi,rfl,s3,n3,g3,spr⟩;have ha3:=s3 _ _ ha;walk_at "w";refine Au (SqL.of ha3) ?_;walk_at "w";rw [List.length_map];refine A5 (λ h3=> ?_) (λ h3=> ?_);rotate_left
    · have:i=xs.length:=by omega
      subst this;rw [MFew.sl_all] at spr;exact key _ _ ⟨wp,ws,x',_,_,_,rfl,s3,n3,g3,spr⟩
    refine ⟨_,λ σ' H' h=>h,?_⟩;clear key;walk_at "w";refine AR ⟨by decide,by decide⟩ ?_;walk_at "w";refine AR (by decide) ?_;obtain ⟨sz,esz,sz1,sz3⟩:∃ sz:Nat,1+x' / 7%3=((sz:Nat):Int)/\1<=sz/\sz<=3:=⟨(1+x' / 7%3).toNat,by omega,by omega,by omega⟩;walk_at "w";rw [esz];refine ⟨x',_,rfl,⟨by omega,by omega⟩,?_⟩;generalize CS x' ((i:Nat):Int)=y;walk_at "w";refine LX (λ m σ H'=>∃ t:Nat,σ=[some (.ref a),some (.int y),some (nV (xs.length / 2)),some (.ref wp),some (nV i),some (nV sz),some (nV t)]/\1<=t/\m=100 - t/\Same H3 H'/\MFew.Blk xs i sz t) (λ σ H'=>∃ t:Nat,σ=[some (.ref a),some (.int y),some (nV (xs.length / 2)),some (.ref wp),some (nV i),some (nV sz),some (nV t)]/\1<=t/\Same H3 H'/\MFew.Blk xs i sz t) 99 ⟨1,rfl,Nat.le_refl _,rfl,Same.refl _,λ q hq=>by rw [show q=0 by omega];rfl⟩ ?_ (λ key=> ?_);rotate_left
    · rintro m _ H4 ⟨t,rfl,t1,rfl,s4,blk⟩;have bl:=RN blk (by omega) sz1 t1;have bt:1*(t - 1)<=sz*(t - 1):=Nat.mul_le_mul_right _ sz1;walk_at "w";refine AR (by decide) ?_;walk_at "w";refine A5 (λ _=> ?_) (λ _=>key _ _ ⟨t,rfl,t1,s4,blk⟩);walk_at "w";refine ⟨a,xs,i,sz,t,rfl,s4 _ _ ha3,by omega,sz3,by omega,λ H5 s5=> ?_⟩;walk_at "w";refine A5 (λ hb=> ?_) (λ _=>key _ _ ⟨t,rfl,t1,s4.trans s5,blk⟩);refine ⟨_,λ σ' H' h=>h,?_⟩;walk_at "w";refine ⟨100 - (t+1),by omega,t+1,rfl,by omega,rfl,s4.trans s5,λ q hq=> ?_⟩;rcases Nat.lt_or_ge q t with h | h
      · exact blk q h
      · rw [show q=t by omega];exact hb
    rintro _ H4 ⟨t,rfl,t1,s4,blk⟩;have s34:=s3.trans s4;have ha4:=s4 _ _ ha3;have g4:=s4 _ _ g3;have slen:=BJ spr;rw [MFew.sl_len (by omega)] at slen
    with_reducible refine ifK (λ kk=> ?_) (λ H5 s5=> ?_)
    rotate_left
    · have s35:=s34.trans s5;have g5:=s5 _ _ g4;walk_at "w";refine tyL (SqL.of g5) ?_;walk_at "w";have ez:xs[i]?=some (xs.getD i ""):=by rw [List.getD_eq_getElem?_getD,List.getElem?_eq_getElem (by omega)];rfl
      refine Bu (SqL.of (s5 _ _ ha4)) (AQ (j:=i) (v:= .str (xs.getD i "")) (by rw [List.getElem?_map,ez];rfl)) ?_;walk_at "w";refine BC g5 (by rw [List.length_map];omega) ?_;walk_at "w";refine ⟨xs.length - (i+1),by omega,wp,ws++[xs.getD i ""],i+1,y,_,_,rfl,by omega,rfl,Bc s35 n3,n3,?_,Px spr (by omega)⟩;rw [Ag,List.map_append];rfl
    walk_at "w";refine A5 (λ _=>HU (kk H4 (Same.refl _))) (λ t1'=> ?_);walk_at "w";refine Au (SqL.of ha4) ?_;walk_at "w";rw [List.length_map];refine A5 (λ _=>kk H4 (Same.refl _)) (λ hle=> ?_);clear kk;have bl:=QQ blk (by omega) t1 sz1;have bt:1*t<=sz*t:=Nat.mul_le_mul_right _ sz1;walk_at "w";refine ⟨_,rfl,F5 (by omega),?_⟩;walk_at "w";have lo:=(GU t (by omega) (by omega)).2.2.2.1;unfold opn at lo;rw [Str.length_append,show opS.length=1 by decide +kernel] at lo;refine ⟨_,_,rfl,rfl,by rw [sizeLine_eq,show (Str.ofString "(").length=1 by decide +kernel];omega,?_⟩;walk_at "w";row_lines H4 x6;replace g6:H6 p6=some (.lst ([opn t].map V.str)):=g6;refine Ec (s6 _ _ g4) g6 (by show _+1<=_;omega) ?_;row_lines H6 x7;walk_at "w";have ha7:=(s6.trans s7) _ _ ha4;refine BQ (SqL.of ha7) ?_;rw [show ((i:Nat):Int)+((sz:Nat):Int)=((i+sz:Nat):Int) by push_cast;rfl,FR (by omega)];row_lines H7 x8;have ls:(MFew.sl xs i (i+sz)).length=sz:=by rw [MFew.sl_len (by omega)];omega
    refine Ec (s8 _ _ g7) g8 (by rw [List.length_append];show _+1+_<=_;omega) ?_;row_lines H8 x9;walk_at "w";row_lines H9 x10;replace g10:H10 p10=some (.lst ([clS].map V.str)):=g10;refine Ec (s10 _ _ g9) g10 (by rw [List.length_append,List.length_append];show _+1+_+1<=_;omega) ?_;row_lines H10 x11;walk_at "w";refine AR (.inl ⟨by omega,by omega⟩) ?_;walk_at "w";rw [show ((i:Nat):Int)+((sz:Nat):Int)*((t:Nat):Int)=((i+sz*t:Nat):Int) by push_cast;rfl];have s410:=s6.trans (s7.trans (s8.trans (s9.trans s10)));refine ⟨xs.length - (i+sz*t),by omega,p11,_,i+sz*t,y,_,_,rfl,by omega,rfl,s34.trans (s410.trans s11),(s34.trans s410).free n11,g11,OO spr blk sz1 (by omega) bl h60⟩
theorem DM {f:Addr} {fd:FuncData} (D:DefAt K mg "_law_grouped" BK ["_law_items","_law_number"] f fd) (T:Txt K mg c) (c__law_mixed:CallF P w K mg base "_law_mixed" 1 ["_law_cell","_law_k"] Bx) (c__law_again:CallF P w K mg base "_law_again" 1 ["_law_items","_law_at","_law_size","_law_times"] CT):∀ n,FnOk P w K mg base CX0 (n+1) f fd ["_law_items","_law_number"] (By n)
  | 0=>⟨λ _ _ _ _ h=>h.elim,λ _ _ _ _ _ _ _ _ _ _ _ _ _ h=>h.elim⟩
  | n+1=>F8 D.fn T c__law_mixed c__law_again (D.call (DM D T c__law_mixed c__law_again n))
def Dy:Sp:=λ vs H Q _=>∃ v d x,vs=[v, .int x]/\Rp H FT 3 v (dDr d)/\DrOk d/\∀ H' p as w1 w2 w3 w4,Same H H'->H p=none->RowsA H' p as (AM d w1 w2 w3 w4)->SprD d w1 w2 w3 w4->Q (.ref p) H'
noncomputable def Iy (l:List Nat):List Str:=if l=[] then ["-"] else []
theorem Nj (l:List Nat):[("tie":Str)]++l.map tN++Iy l=("tie":Str)::Cw l:=by
  unfold Iy Cw;by_cases z:l=[]
  · rw [if_pos z,if_pos z,z];rfl
  · rw [if_neg z,if_neg z,List.append_nil];rfl
theorem Kc {α:Type} {xs:List α} {y:α} {i:Nat} (h:i<xs.length):xs.take (i+1)=xs.take i++[xs.getD i y]:=by
  rw [List.take_succ,List.getElem?_eq_getElem h,List.getD_eq_getElem?_getD,List.getElem?_eq_getElem h];rfl
noncomputable abbrev DV:Stmt:=top 66
theorem sc__law_rows:FnScope ["_law_draft_here","_law_number","_law_rows_here","_law_tie"] ["_law_draft_here","_law_number"] (Ai DV):=⟨rfl,rfl,rfl,by decide +kernel,rfl,by decide +kernel,by decide +kernel⟩
theorem JF {f:Addr} {fd:FuncData} (F:Fun K "_law_rows" "_law_rows" DV f fd) (T:Txt K mg c) (c__law_grouped:CallF P w K mg base "_law_grouped" (6+1) ["_law_items","_law_number"] (By 6)) (c__law_mixed:CallF P w K mg base "_law_mixed" 1 ["_law_cell","_law_k"] Bx) (c__law_pick:CallF P w K mg base "_law_pick" 1 ["_law_pick_here"] (FA K)):FnOk P w K mg base CX0 8 f fd ["_law_draft_here","_law_number"] Dy:=by
  refine F.ok sc__law_rows (λ vs H Q E h=> ?_) (λ cdv A outer s H vs Q E hr h=> ?_)
  · obtain ⟨v,d,x,rfl,_⟩:=h;rfl
  · obtain ⟨v,d,x,rfl,r1,ok,k⟩:=h;have hu:=hr.units0;obtain ⟨m,a,v0,v1,v2,v3,v4,v5,v6,em,rfl,ha,q0,q1,q2,q3,q4,q5,q6⟩:=JJ r1;cases em;cases q0;cases q1;obtain ⟨b2,rfl,e2,_,_⟩:=Gr q2;obtain ⟨m3,b3,vs3,em3,rfl,e3,_,l3,_,el3⟩:=C4 q3;cases em3;obtain ⟨m4,b4,vs4,em4,rfl,e4,_,l4,_,el4⟩:=C4 q4;cases em4;obtain ⟨b5,rfl,e5,_,_⟩:=IZ q5;obtain ⟨b6,rfl,e6,_,_⟩:=IZ q6;rw [List.length_map] at l3 l4;refine ⟨_,(Ac (Am (i:=2) sc__law_rows.nd rfl (Or.inl rfl) (Aw (Aa (Aw (Aa Ao (Aa (Av Hs rfl (T.own _ (by decide)) boot_str (Aa (Ba (Fi (K:=K)) (pv 0) Af (λ _ _=>rfl)) Ab)) Ab))) (Aa (Aw (Aa Ao (Aa (Av Hs rfl (T.own _ (by decide)) boot_str (Aa (Ba (Fi (K:=K)) (pv 0) Af (λ _ _=>rfl)) Ab)) Ab))) Ab))))
      (Ac (Az (AW (K:=K) PySem.F.plainAttrs_list PySem.F.slot_list_append PySem.F.type_list_append AO (pv 2) (Aa (Ak (Bw (K:=K)) (Aw (Aa Ao Ab)) (Ad c__law_grouped hr (Aa (AA (Bi (K:=K) (Ba (Fi (K:=K)) (pv 0) Af (λ _ _=>rfl))) (λ _ _ _ _=>Ax) (λ _ _ _ _=>(Av Hs rfl (T.own _ (by decide)) boot_str (Aa (pv 0) Ab)))) (Aa (Ad c__law_mixed (hr.mono (by decide)) (Aa (pv 1) (Aa Af Ab))) Ab)))) Ab)))
      (Ac (B4 PassesOwn.never rfl (Bi (K:=K) (Ba (Fi (K:=K)) (pv 0) Af (λ _ _=>rfl))) (AK (i:=3) sc__law_rows.nd rfl (Or.inl rfl)) (Ae (Az (AW (K:=K) PySem.F.plainAttrs_list PySem.F.slot_list_append PySem.F.type_list_append AO (pv 2) (Aa (Ak (Bw (K:=K)) (Ak (Bw (K:=K)) (Aw (Aa Ao Ab)) (AA (Bi (K:=K) (pv 3)) (λ _ _ _ _=>Ax) (λ _ _ _ _=>(Av Hs rfl (T.own _ (by decide)) boot_str (Aa (pv 0) Ab))))) (Ak JD (Aw (Aa Ao Ab)) (Av NV rfl (T.own _ (by decide)) boot_int (Aa (A6 (Gh hu (K:=K)) (pv 3) (Aw Ab) (Aq _)) Ab)))) Ab)))))
      (Ac (Az (AW (K:=K) PySem.F.plainAttrs_list PySem.F.slot_list_append PySem.F.type_list_append AO (pv 2) (Aa (Ak (Bw (K:=K)) (Aw (Aa Ao Ab)) (Ad c__law_grouped hr (Aa (AA (Bi (K:=K) (Ba (Fi (K:=K)) (pv 0) Af (λ _ _=>rfl))) (λ _ _ _ _=>Ax) (λ _ _ _ _=>(Ad c__law_pick (hr.mono (by decide)) (Aa (pv 0) Ab)))) (Aa (Ad c__law_mixed (hr.mono (by decide)) (Aa (pv 1) (Aa Af Ab))) Ab)))) Ab)))
      (Ac (Az (AW (K:=K) PySem.F.plainAttrs_list PySem.F.slot_list_append PySem.F.type_list_append AO (pv 2) (Aa (Ak (Bw (K:=K)) (Aw (Aa Ao Ab)) (Ad c__law_grouped hr (Aa (Ba (Fi (K:=K)) (pv 0) Af (λ _ _=>rfl)) (Aa (Ad c__law_mixed (hr.mono (by decide)) (Aa (pv 1) (Aa Af Ab))) Ab)))) Ab)))
      (Ac (Az (AW (K:=K) PySem.F.plainAttrs_list PySem.F.slot_list_append PySem.F.type_list_append AO (pv 2) (Aa (Ak (Bw (K:=K)) (Aw (Aa Ao Ab)) (Ad c__law_grouped hr (Aa (Ba (Fi (K:=K)) (pv 0) Af (λ _ _=>rfl)) (Aa (Ad c__law_mixed (hr.mono (by decide)) (Aa (pv 1) (Aa Af Ab))) Ab)))) Ab)))
      (Ae (Al (pv 2))))))))),?_⟩
    walk_at "w";refine DE (SqT.of ha) (AQ (j:=0) rfl) ?_;walk_at "w";refine ⟨_,rfl,F5 (by have:=ok.s2;omega),?_⟩;walk_at "w";row_lines H x1;walk_at "w";refine DE (SqT.of (s1 _ _ ha)) (AQ (j:=1) rfl) ?_;walk_at "w";refine ⟨_,rfl,F5 (by have:=ok.t2;omega),?_⟩;walk_at "w";row_lines H1 x2;walk_at "w";row_lines H2 x3;have R3:RowsA H3 p3 [p1,p2] [[("shafts":Str),tN d.sh],[("treadles":Str),tN d.tr]]:=⟨g3,⟨s3 _ _ (s2 _ _ g1),s3 _ _ g2,trivial⟩,λ z=>by
      rcases List.mem_cons.mp z with z | z
      · rw [z,s2 _ _ g1] at n3;cases n3
      · rw [List.mem_singleton.mp z,g2] at n3;cases n3⟩
    have s03:=s1.trans (s2.trans s3);have f3:H p3=none:=s1.free (s2.free n3);clear n1 n2 g1 g2 s1 s2 s3;walk_at "w";refine tyL (SqL.of R3.at') ?_;walk_at "w";row_lines H3 x4;walk_at "w";refine DE (SqT.of ((s03.trans s4) _ _ ha)) (AQ (j:=2) rfl) ?_;walk_at "w";have e24:=(s03.trans s4) _ _ e2;refine ⟨b2,rfl,⟨_,SqL.of e24⟩,λ D5 hD5=> ?_⟩;refine BF (G:=λ i=>tN (d.th.getD i 0)) (AH (SqL.of e24) rfl) hD5 (by rw [List.length_map];have:=ok.h2;omega) ?_ ?_
    · intro i H' R hi s kk;rw [List.length_map] at hi;rw [getD_map (e:=0) hi];walk_at "w";exact ⟨_,rfl,F5 (by have:=ok.th16 _ (L2.getD_mem (y:=0) hi);omega),kk H' (Same.refl _)⟩
    intro H5 s5 g5;rw [List.length_map,AX] at g5;walk_at "w";refine ⟨x,1,rfl,⟨by decide,by decide⟩,?_⟩;walk_at "w";refine ⟨D5,_,_,rfl,g5,ok.n1,by simpa using ok.h2,by have:=ok.h2;rw [List.length_map];show _<64;omega,λ H6 p6 w1 s6 n6 g6 a1=> ?_⟩;have lw1:=BJ a1;rw [List.length_map] at lw1;have:=ok.h2;refine Ec (xs:=["thread"]) (s6 _ _ (s5 _ _ g4)) g6 (by show 1+_<=_;omega) ?_;row_lines H6 x7;walk_at "w";have s37:=s4.trans (s5.trans (s6.trans s7));have R7:=R3.same s37;refine BC R7.at' (by show 2<16777216;decide) ?_;have R8:=R7.put g7 (λ z=>by rw [z,(s4.trans (s5.trans s6)) _ _ R3.at'] at n7;cases n7);have s08:=Bc (s03.trans s37) f3 (o:=HO.lst ([p1,p2].map V.ref++[.ref p7]));generalize upd H7 p3 (HO.lst ([p1,p2].map V.ref++[.ref p7]))=H8 at R8 s08 ⊢;clear R3 R7 s03 s37 s4 s5 s6 s7 g4 g5 g6 g7 n4 n6 n7 g3 e24 hD5;have l8:([p1,p2]++[p7]).length=3:=rfl;generalize [p1,p2]++[p7]=as8 at R8 l8;walk_at "w";refine DE (SqT.of (s08 _ _ ha)) (AQ (j:=3) rfl) ?_;walk_at "w";refine ⟨b3,rfl,⟨_,SqL.of (s08 _ _ e3)⟩,Cq (H0:=H) (GP (SqL.of e3)) (λ i σ H'=>∃ x3 as,σ=[some (.ref a),some (.int x),some (.ref p3),x3]/\Same H H'/\RowsA H' p3 as ([[("shafts":Str),tN d.sh],[("treadles":Str),tN d.tr]]++[[("thread":Str)]++w1]++(d.ti.take i).map (λ l=>("tie":Str)::Cw l))/\as.length=3+i) ⟨_,as8,rfl,s08,by rw [List.take_zero,List.map_nil,List.append_nil];exact R8,l8⟩ (λ i σ H' ⟨_,_,_,s,_⟩=>s) ?_ ?_⟩
    · rintro i σ H9 H10 hi ⟨x3,as,rfl,s9,R9,l9⟩ s10;have hi':i<d.ti.length:=by omega
      have ti16:d.ti.length<=16:=by have:=ok.il;have:=ok.t2;omega
      have r:=el3 i (by simpa using hi');rw [L2.getD_map dL d.ti i .non [] hi'] at r;obtain ⟨b,eb,hb3,_,hb4⟩:=Gr r;rw [eb];have hm:=L2.getD_mem (y:=[]) hi';have hl16:=ok.tiL _ hm;have s010:=s9.trans s10;have R10:=R9.same s10;walk_at "w";refine tyL (SqL.of R10.at') ?_;walk_at "w";row_lines H10 x11;walk_at "w";have hb11:=(s010.trans s11) _ _ hb3;refine ⟨b,rfl,⟨_,SqL.of hb11⟩,λ D12 hD12=> ?_⟩;refine BF (G:=λ j=>tN ((d.ti.getD i []).getD j 0)) (AH (SqL.of hb11) rfl) hD12 (by rw [List.length_map];omega) ?_ ?_
      · intro j H' R hj s kk;rw [List.length_map] at hj;rw [getD_map (e:=0) hj];walk_at "w";exact ⟨_,rfl,F5 (by have:=ok.ti16 _ hm _ (L2.getD_mem (y:=0) hj);omega),kk H' (Same.refl _)⟩
      intro H12 s12 g12;rw [List.length_map,AX] at g12;refine Ec (xs:=["tie"]) (s12 _ _ g11) g12 (by rw [List.length_map];show 1+_<=_;omega) ?_;row_lines H12 x13;walk_at "w";row_lines H13 x14;walk_at "w";row_lines H14 x15;refine LN (SqL.of ((s12.trans (s13.trans (s14.trans s15))) _ _ hb11)) (SqL.of g15) ?_;walk_at "w";refine ⟨_,rfl,?_⟩;have ed:(List.replicate (if decide (d.ti.getD i []=[])=true then (1:Int) else 0).toNat [V.str (Str.ofString "-")]).flatten=(Iy (d.ti.getD i [])).map V.str:=by
        unfold Iy;by_cases z:d.ti.getD i []=[]
        · rw [decide_eq_true z,if_pos rfl,if_pos z];rfl
        · rw [decide_eq_false z,if_neg (by decide),if_neg z];rfl
      refine JO (s15 _ _ g14) (by split <;> decide) (by split <;> decide) (by show 1<=100;decide) ?_;rw [ed];row_lines H15 x16;have ld:(Iy (d.ti.getD i [])).length<=1:=by unfold Iy;split <;> decide
      refine Ec (s14.trans (s15.trans s16) _ _ g13) g16 (by rw [List.length_append,List.length_map];show 1+_+_<=_;omega) ?_;row_lines H16 x17;walk_at "w";have s1016:=s11.trans (s12.trans (s13.trans (s14.trans (s15.trans s16))));have R17:=R10.same (s1016.trans s17);rw [Nj] at g17;refine BC R17.at' (by rw [List.length_map];omega) ?_;have R18:=R17.put g17 (λ z=>by rw [z,s1016 _ _ R10.at'] at n17;cases n17);walk_at "w";refine ⟨_,as++[p17],rfl,Bc (s010.trans (s1016.trans s17)) f3,?_,by rw [List.length_append];show _+1=_;omega⟩;rw [List.append_assoc] at R18;rw [Kc hi',List.map_append];exact R18
    · rintro σ H9 ⟨x3,as,rfl,s9,R9,l9⟩;rw [l3,List.take_length] at R9;rw [l3] at l9;have ti16:d.ti.length<=16:=by have:=ok.il;have:=ok.t2;omega
      walk_at "w";have p2':=ok.p2;have h2':=ok.h2;have wl':=ok.wl;have fl':=ok.fl;refine tyL (SqL.of R9.at') ?_;walk_at "w";row_lines H9 x11;walk_at "w";have s011:=s9.trans s11;refine DE (SqT.of (s011 _ _ ha)) (AQ (j:=4) rfl) ?_;walk_at "w";refine ⟨b4,rfl,⟨_,SqL.of (s011 _ _ e4)⟩,λ D12 hD12=> ?_⟩;refine BF (G:=λ i=>AJ (d.td.getD i [])) (AH (SqL.of (s011 _ _ e4)) rfl) hD12 (by omega) ?_ ?_
      · intro i H' R hi s kk;have hi':i<d.td.length:=by omega
        have r:=el4 i (by simpa using hi');rw [L2.getD_map dL d.td i .non [] hi'] at r;obtain ⟨b,eb,hb3,_,hb4⟩:=Gr r;rw [eb];have hm:=L2.getD_mem (y:=[]) hi';walk_at "w";exact ⟨b,_,rfl,(s011.trans s) _ _ hb3,ok.tdL _ hm,λ n hn=>ok.td16 _ hm n hn,λ H2 s2=>kk H2 s2⟩
      intro H12 s12 g12;rw [l4,AX (f:=AJ)] at g12;walk_at "w";refine ⟨x,2,rfl,⟨by decide,by decide⟩,?_⟩;walk_at "w";refine ⟨D12,_,_,rfl,g12,ok.n2,by simpa using ok.p2,by rw [List.length_map];show _<64;omega,λ H13 p13 w2 s13 n13 g13 a2=> ?_⟩;have lw2:=BJ a2;rw [List.length_map] at lw2;refine Ec (xs:=["tread"]) (s13 _ _ (s12 _ _ g11)) g13 (by show 1+_<=_;omega) ?_;row_lines H13 x14;walk_at "w";have s1014:=s11.trans (s12.trans (s13.trans s14));have R14:=R9.same s1014;refine BC R14.at' (by rw [List.length_map];omega) ?_;have R15:=R14.put g14 (λ z=>by rw [z,(s11.trans (s12.trans s13)) _ _ R9.at'] at n14;cases n14);have s015:=Bc (s9.trans s1014) f3 (o:=HO.lst (as.map V.ref++[.ref p14]));generalize upd H14 p3 (HO.lst (as.map V.ref++[.ref p14]))=H15 at R15 s015 ⊢;clear R9 R14 s9 s011 s1014 s11 s12 s13 s14 g11 g12 g13 g14 n11 n13 n14 hD12;have lA5:(as++[p14]).length<=20:=by rw [List.length_append];show _+1<=_;omega
      generalize as++[p14]=as15 at R15 lA5;walk_at "w";refine tyL (SqL.of R15.at') ?_;walk_at "w";row_lines H15 x16;walk_at "w";have s016:=s015.trans s16;refine DE (SqT.of (s016 _ _ ha)) (AQ (j:=5) rfl) ?_;walk_at "w";refine ⟨x,3,rfl,⟨by decide,by decide⟩,?_⟩;walk_at "w";refine ⟨b5,d.wa,_,rfl,s016 _ _ e5,ok.n3,by omega,by show _<64;omega,λ H17 p17 w3 s17 n17 g17 a3=> ?_⟩;have lw3:=BJ a3;refine Ec (xs:=["warp"]) (s17 _ _ g16) g17 (by show 1+_<=_;omega) ?_;row_lines H17 x18;walk_at "w";have s1518:=s16.trans (s17.trans s18);have R18:=R15.same s1518;refine BC R18.at' (by rw [List.length_map];omega) ?_;have R19:=R18.put g18 (λ z=>by rw [z,(s16.trans s17) _ _ R15.at'] at n18;cases n18);have s019:=Bc (s015.trans s1518) f3 (o:=HO.lst (as15.map V.ref++[.ref p18]));generalize upd H18 p3 (HO.lst (as15.map V.ref++[.ref p18]))=H19 at R19 s019 ⊢;clear R15 R18 s015 s016 s1518 s16 s17 s18 g16 g17 g18 n16 n17 n18;have lA9:(as15++[p18]).length<=21:=by rw [List.length_append];show _+1<=_;omega
      generalize as15++[p18]=as19 at R19 lA9;walk_at "w";refine tyL (SqL.of R19.at') ?_;walk_at "w";row_lines H19 x20;walk_at "w";have s020:=s019.trans s20;refine DE (SqT.of (s020 _ _ ha)) (AQ (j:=6) rfl) ?_;walk_at "w";refine ⟨x,4,rfl,⟨by decide,by decide⟩,?_⟩;walk_at "w";refine ⟨b6,d.we,_,rfl,s020 _ _ e6,ok.n4,by omega,by show _<64;omega,λ H21 p21 w4 s21 n21 g21 a4=> ?_⟩;have lw4:=BJ a4;refine Ec (xs:=["weft"]) (s21 _ _ g20) g21 (by show 1+_<=_;omega) ?_;row_lines H21 x22;walk_at "w";have s1922:=s20.trans (s21.trans s22);have R22:=R19.same s1922;refine BC R22.at' (by rw [List.length_map];omega) ?_;have R23:=R22.put g22 (λ z=>by rw [z,(s20.trans s21) _ _ R19.at'] at n22;cases n22);have s023:=Bc (s019.trans s1922) f3 (o:=HO.lst (as19.map V.ref++[.ref p22]));generalize upd H22 p3 (HO.lst (as19.map V.ref++[.ref p22]))=H23 at R23 s023 ⊢;have eR:[[("shafts":Str),tN d.sh],[("treadles":Str),tN d.tr]]++[[("thread":Str)]++w1]++d.ti.map (λ l=>("tie":Str)::Cw l)++[[("tread":Str)]++w2]++[[("warp":Str)]++w3]++[[("weft":Str)]++w4]=AM d w1 w2 w3 w4:=by
        unfold AM;simp only [List.append_assoc,List.cons_append,List.nil_append]
      rw [eR] at R23;walk_at "w";exact k H23 p3 _ w1 w2 w3 w4 s023 f3 R23 ⟨a1,a2,a3,a4⟩
noncomputable def fourN:List Str:=["thread","tread","warp","weft"]
def PlR (r r':List Str):Prop:=(∃ nm ws,r=nm::ws/\r'=nm::ws/\nm∉fourN)\/(∃ nm ws l,r=nm::ws/\r'=nm::l/\nm∈fourN/\l≠[]/\l.length<=60/\(∀ z∈l,GC z)/\MFew.Spr opn clS (λ z=>z∈l) ws l)
def Al2 (R:List Str->List Str->Prop):List (List Str)->List (List Str)->Prop
  | [],[]=>True
  | r::rs,s::ss=>R r s/\Al2 R rs ss
  | _,_=>False
abbrev WW:List (List Str)->List (List Str)->Prop:=Al2 PlR
section
variable {R:List Str->List Str->Prop}
theorem Al2.app:∀ {as bs us vs:List (List Str)},Al2 R as us->Al2 R bs vs->Al2 R (as++bs) (us++vs)
  | [],_,[],_,_,h=>h
  | _::_,_,_::_,_,h,k=>⟨h.1,Al2.app h.2 k⟩
theorem Al2.len:∀ {as us:List (List Str)},Al2 R as us->as.length=us.length
  | [],[],_=>rfl
  | _::_,_::_,h=>by rw [List.length_cons,List.length_cons,Al2.len h.2]
theorem Al2.get:∀ {as us:List (List Str)} {i:Nat},Al2 R as us->i<as.length->R (as.getD i []) (us.getD i [])
  | [],_,_,_,hi=>absurd hi (Nat.not_lt_zero _)
  | _::_,[],_,h,_=>h.elim
  | a::as,u::us,0,h,_=>h.1
  | a::as,u::us,i+1,h,hi=>Al2.get (i:=i) h.2 (by simpa using hi)
theorem Al2.map {f:List Nat->List Str} (h:∀ l,R (f l) (f l)):∀ (ls:List (List Nat)),Al2 R (ls.map f) (ls.map f)
  | []=>trivial
  | l::ls=>⟨h l,Al2.map h ls⟩
end
noncomputable def EN (d:Dr):List (List Str):=AM d (d.th.map tN) (d.td.map AJ) d.wa d.we
theorem LD {d:Dr} (ok:DrOk d) {w1 w2 w3 w4:List Str} (s:SprD d w1 w2 w3 w4):WW (AM d w1 w2 w3 w4) (EN d):=by
  have:=ok.h2;have:=ok.p2;have:=ok.wl;have:=ok.fl;unfold EN AM;refine Al2.app (Al2.app ⟨.inl ⟨_,_,rfl,rfl,by decide +kernel⟩, .inl ⟨_,_,rfl,rfl,by decide +kernel⟩, .inr ⟨_,_,_,rfl,rfl,by decide +kernel,ok.n1,by rw [List.length_map];omega,ok.g1,s.a1⟩,trivial⟩ (Al2.map (λ _=> .inl ⟨_,_,rfl,rfl,by decide +kernel⟩) _))
    ⟨.inr ⟨_,_,_,rfl,rfl,by decide +kernel,ok.n2,by rw [List.length_map];omega,ok.g2,s.a2⟩, .inr ⟨_,_,_,rfl,rfl,by decide +kernel,ok.n3,by omega,ok.g3,s.a3⟩, .inr ⟨_,_,_,rfl,rfl,by decide +kernel,ok.n4,by omega,ok.g4,s.a4⟩,trivial⟩
noncomputable def G2 (z:Str):Nat:=z.cps.toList.getD (z.cps.toList.length - 1) 0
theorem Pt {z:Str} (g:GC z):(Builtin.Str.occurrences "()" ⟨#[G2 z]⟩ 0 (Str.length "()") 1).isEmpty=true:=by
  have h:=StrLaws.found_one ("()":Str) (G2 z);have hm:G2 z∈z.cps.toList:=by
    unfold G2;have:=List.length_pos_iff.mpr g.ne;rw [List.getD_eq_getElem?_getD,List.getElem?_eq_getElem (by omega)];exact List.getElem_mem _
  have ho:=g.ok _ hm;have hn:G2 z∉("()":Str).cps.toList:=λ q=>by
    have e:("()":Str).cps.toList=[40,41]:=by decide +kernel
    rw [e] at q;rcases List.mem_cons.mp q with q | q
    · rw [q] at ho;revert ho;decide
    · rw [List.mem_singleton.mp q] at ho;revert ho;decide
  rw [decide_eq_false hn] at h;simpa using h
theorem AtL.smt {t1 t2 t3:Addr} {H H':Hp} (x:SmT t1 t2 t3 H H'):∀ {as:List Addr} {us:List (List Str)},AtL H as us->AtL H' as us
  | [],[],_=>trivial
  | _::_,_::_,h=>⟨x.lst h.1,AtL.smt x h.2⟩
theorem RowsA.smt {t1 t2 t3:Addr} {H H':Hp} {r:Addr} {as:List Addr} {us:List (List Str)} (h:RowsA H r as us) (x:SmT t1 t2 t3 H H'):RowsA H' r as us:=⟨x.lst h.at',h.el.smt x,h.nr⟩
theorem JM {H:Hp} {T q:Addr} {qq:Str} {ys ys':List V} (h:LamT H T qq) (hq:H q=some (.lst ys)):LamT (upd H q (.lst ys')) T qq:=by
  obtain ⟨ps,h1,h2,h3⟩:=h;refine ⟨ps,by rw [As (DP h1 hq (λ z=>by cases z))];exact h1,h2,λ pos cv e=> ?_⟩;obtain ⟨c',oc,e1,e2,e3⟩:=h3 pos cv e;exact ⟨c',oc,e1,by rw [As (DP e2 hq (λ z=>by unfold exO at z;cases z))];exact e2,e3⟩
theorem Qt {t1 t2 t3 q:Addr} {H:Hp} {ys ys':List V} (h:Tb t1 t2 t3 H) (hq:H q=some (.lst ys)):Tb t1 t2 t3 (upd H q (.lst ys')):=⟨JM h.l1 hq,JM h.l2 hq,JM h.l3 hq,h.n12,h.n13,h.n23⟩
def EL (t1 t2 t3:Addr):Sp:=λ vs H Q _=>∃ (p:Addr) (as:List Addr) (rows rows':List (List Str)),vs=[.ref p]/\RowsA H p as rows/\WW rows rows'/\rows.length<=100/\Tb t1 t2 t3 H/\∀ H' q bs,SmT t1 t2 t3 H H'->H q=none->RowsA H' q bs rows'->Q (.ref q) H'
noncomputable abbrev Cb:Stmt:=top 71
theorem sc__law_plain:FnScope ["_law_rows_here","_law_found","_law_row","_law_words"] ["_law_rows_here"] (Ai Cb):=⟨rfl,rfl,rfl,by decide +kernel,rfl,by decide +kernel,by decide +kernel⟩
theorem HQ {f:Addr} {fd:FuncData} {cc:Addr} (hc:fd.code= .ref cc) (hd:PySem.W.CodeHd base cc TT3) (hbt:base.BuiltinsAt mg TT3) (F:Fun K "_law_plain" "_law_plain" Cb f fd) (T:Txt K mg c) (c_spread:(∃ fs,mg "spread"=some (.ref fs)/\PySem.W.keepIn K (.ref fs)=true)/\∀ (base':Heap) (fl:Addr) (sL:Sp),LamV P w K mg base' 6 fl sL->CallF P w K mg base' "spread" 8 ["words","most","fits"] (EC K fl sL)):FnOk P w K mg base CX0 9 f fd ["_law_rows_here"] (EL TT1 TT2 TT3):=by
  refine Fun.okL F hc sc__law_plain (λ vs H Q E h=> ?_) (λ A outer s H vs Q E hr h=> ?_)
  · obtain ⟨p,as,rows,rows',rfl,_⟩:=h;rfl
  · obtain ⟨p,as,rows,rows',rfl,R,pl,hl,tb,k⟩:=h;have hu:=hr.units0;refine ⟨_,(Ac (Am (i:=1) sc__law_plain.nd rfl (Or.inl rfl) (Aw Ab))
      (Ac (B4 PassesOwn.never rfl (Bi (K:=K) (pv 0)) (AK (i:=2) sc__law_plain.nd rfl (Or.inl rfl)) (Ac (Am (i:=3) sc__law_plain.nd rfl (Or.inl rfl) (pv 2))
      (Ac (AB (An (QN (K:=K)) (Ba (CI (K:=K)) (pv 2) Af (λ _ _=>rfl)) (Cj (Aa Ao (Aa Ao (Aa Ao (Aa Ao Ab))))) (by with_unfolding_all rfl)) (Ae (Am (i:=3) sc__law_plain.nd rfl (Or.inl rfl) (Ak (Bw (K:=K)) (Aw (Aa (Ba (CI (K:=K)) (pv 2) Af (λ _ _=>rfl)) Ab)) (Qu (y:="_law_word") (N:=[]) (idx:=[]) c_spread.1 c_spread.2 hr ⟨rfl,hd,hbt⟩ (A0 (C7 (K:=K)) (pv 2) (AV Af) Ca) Af (λ _ _ _ _ _ _ _ _ _ hrL=>(A6 Jv (Ba KY (pv 0) (Ak E8 (Ah (AC (K:=K)) rfl (T.own _ (by decide)) boot_len (Aa (pv 0) Ab)) Af) (λ _ _=>rfl)) Ao (by with_unfolding_all rfl))) (show BV _ _ _ ["_law_rows_here","_law_found","_law_row","_law_words"] (Ai Cb).names=true by decide +kernel) (by decide +kernel))))) Ar)
      (Ae (Az (AW (K:=K) PySem.F.plainAttrs_list PySem.F.slot_list_append PySem.F.type_list_append AO (pv 1) (Aa (pv 3) Ab)))))))
      (Ae (Al (pv 1))))),?_⟩
    walk_at "w";row_lines H x1;walk_at "w";have lE:=R.el.len;refine ⟨p,rfl,⟨_,SqL.of (s1 _ _ R.at')⟩,Cq (H0:=nt H) (GP (SqL.of (Gd R.at'))) (λ i σ H'=>∃ x2 x3 bs,σ=[some (.ref p),some (.ref p1),x2,x3]/\SmT TT1 TT2 TT3 H H'/\RowsA H' p1 bs (rows'.take i)/\bs.length=i) ⟨_,_,[],rfl,SmT.of s1,⟨g1,trivial,by simp⟩,rfl⟩ (λ i σ H' ⟨_,_,_,_,s,_⟩=>s.st) ?_ ?_⟩
    · rintro i σ H2 H3 hi ⟨x2,x3,bs,rfl,x2',R2,l2⟩ s3;rw [List.length_map] at hi;have hi':i<rows.length:=by omega
      have er:rows[i]?=some (rows.getD i []):=by rw [List.getD_eq_getElem?_getD,List.getElem?_eq_getElem hi'];rfl
      obtain ⟨a,ea,ga⟩:=R.el.get er;have ev:((as.map V.ref).getD i .non)= .ref a:=by rw [List.getD_eq_getElem?_getD,List.getElem?_map,ea];rfl
      rw [ev];have x3':=x2'.trans (SmT.of s3);have ga3:=x3'.lst ga;have hp:=pl.get hi';walk_at "v";have R3:=R2.same s3;have np:a≠p1:=λ z=>by rw [z,n1] at ga;cases ga
      refine ifJ (λ σ' H'=>∃ b,σ'=[some (.ref p),some (.ref p1),some (.ref a),some (.ref b)]/\SmT TT1 TT2 TT3 H3 H'/\H' b=some (.lst ((rows'.getD i []).map V.str))/\b≠p1) ?_ (λ key=> ?_)
      · rintro _ H4 ⟨b,rfl,x4,g4,nb⟩;have R4:=R3.smt x4;walk_at "w";refine tyL (SqL.of R4.at') ?_;walk_at "w";refine BC R4.at' (by rw [List.length_map];omega) ?_;have R5:=R4.put g4 nb;refine ⟨_,_,bs++[b],rfl,⟨λ c o e=> ?_,λ c nc=> ?_,λ t=> ?_⟩,?_,by rw [List.length_append];show _+1=_;omega⟩
        · rw [As (λ z=>by rw [z,show nt H p1=none by unfold nt;rw [n1]] at e;cases e)];exact (x3'.trans x4).st c o e
        · by_cases hc:c=p1
          · rw [hc,Ag];simp
          · rw [As hc];exact (x3'.trans x4).th c nc
        · exact Qt ((x3'.trans x4).tb t) R4.at'
        · rw [Kc (y:=[]) (by rw [<-pl.len];exact hi')];exact R5
      rcases hp with ⟨nm,ws,e1,e2,e3⟩ | ⟨nm,ws,l,e1,e2,e3,hne,h60,hg,spr⟩
      · rw [e1] at ga3;rw [e2] at key;walk_at "w";refine Bu (SqL.of ga3) (AQ (j:=0) (v:= .str nm) rfl) ?_;walk_at "w";row_lines H3 x4;refine ⟨p4,_,rfl, .inr (SqT.of g4),rfl,rfl,?_⟩;rw [show ([V.str (Str.ofString "thread"),V.str (Str.ofString "tread"),V.str (Str.ofString "warp"),V.str (Str.ofString "weft")]:List V)=fourN.map V.str from rfl,FD,decide_eq_false e3];walk_at "w";exact key _ _ ⟨a,rfl,SmT.of s4,s4 _ _ ga3,np⟩
      · rw [e1] at ga3;rw [e2] at key;walk_at "w";refine Bu (SqL.of ga3) (AQ (j:=0) (v:= .str nm) rfl) ?_;walk_at "w";row_lines H3 x4;refine ⟨p4,_,rfl, .inr (SqT.of g4),rfl,rfl,?_⟩;rw [show ([V.str (Str.ofString "thread"),V.str (Str.ofString "tread"),V.str (Str.ofString "warp"),V.str (Str.ofString "weft")]:List V)=fourN.map V.str from rfl,FD,decide_eq_true e3];walk_at "w";rw [if_pos (show (if false=true then !true else true)=true by decide)];walk_at "w";refine Bu (SqL.of (s4 _ _ ga3)) (AQ (j:=0) (v:= .str nm) rfl) ?_;walk_at "w";row_lines H4 x5;walk_at "w";refine QM ?_;walk_at "w";have ga5:=(s4.trans s5) _ _ ga3;refine BQ (SqL.of ga5) ?_;rw [Fs (by decide),show (nm::ws).map V.str=V.str nm::ws.map V.str from rfl,show ((1:Int).toNat)=1 from rfl,List.drop_one,List.tail_cons];row_lines H5 x6;walk_at "w";have tb6:Tb TT1 TT2 TT3 H6:=(x3'.tb tb).same (s4.trans (s5.trans s6));refine ⟨tb6.l3,[],rfl,λ i j hj=>by simp at hj,λ H7 fl c' oc hT7 old hc7=> ?_⟩;have x7:SmT TT1 TT2 TT3 H6 H7:=Xf tb6 hT7 old;refine ⟨p6,ws,l,60,rfl,LR (SqL.of (x7.lst g6)) spr hne h60 (by decide) (λ z hz=>hg z hz) (λ z hz H8 Q' s8 q=> ?_) λ H8 p8 s8 n8 g8=> ?_⟩
        · have g:=hg z hz;refine ⟨_,rfl,s8 _ _ hc7,?_⟩;walk_at "w";refine GT (Nat.le_trans g.le (by decide)) ?_;walk_at "w";have zl:1<=z.length:=by rw [<-F6];exact List.length_pos_iff.mpr g.ne
          rw [show ((z.length:Nat):Int) - 1=((z.length - 1:Nat):Int) by omega];refine KN (c:=G2 z) (Nat.le_trans g.le (by decide)) (AQ (j:=z.length - 1) (by unfold G2;rw [List.getD_eq_getElem?_getD,F6,List.getElem?_eq_getElem (by rw [F6];omega)];rfl)) ?_;walk_at "w";refine ⟨_,_,rfl,rfl,?_⟩;rw [Pt g];exact q H8 (Same.refl _)
        · have x38:SmT TT1 TT2 TT3 H3 H8:=(SmT.of (s4.trans (s5.trans s6))).trans (x7.trans (SmT.of s8));have g58:=((SmT.of s6).trans (x7.trans (SmT.of s8))).lst (b:=p5) g5;refine Ec (xs:=[nm]) g58 g8 (by show 1+_<=_;omega) ?_;row_lines H8 x9;refine Jk ?_;exact key _ _ ⟨p9,rfl,x38.trans (SmT.of s9),g9,λ z=>by rw [z,x38.lst R3.at'] at n9;cases n9⟩
    · rintro σ H2 ⟨x2,x3,bs,rfl,x2',R2,l2⟩;walk_at "w";rw [List.length_map,lE,pl.len,List.take_length] at R2;exact k H2 p1 bs x2' n1 R2
theorem AtL.mem {H:Hp}:∀ {as:List Addr} {us:List (List Str)} {a:Addr},AtL H as us->a∈as->∃ u∈us,H a=some (.lst (u.map V.str))
  | [],_,_,_,h=>(nomatch h)
  | _::_,[],_,h,_=>h.elim
  | b::as,u::us,a,h,ha=>by
    rcases List.mem_cons.mp ha with rfl | ha
    · exact ⟨u,List.mem_cons_self,h.1⟩
    · obtain ⟨v,h1,h2⟩:=AtL.mem h.2 ha;exact ⟨v,List.mem_cons_of_mem _ h1,h2⟩
theorem M4 {H:Hp} {D:Addr} {as:List Addr} {rows:List (List Str)} (e:H D=some (.lst (as.map V.ref))) (A:AtL H as rows) (hne:∀ r∈rows,r≠[]):RowsA H D as rows:=⟨e,A,λ z=>by
  obtain ⟨u,h1,h2⟩:=A.mem z;rw [e] at h2;have h2:as.map V.ref=u.map V.str:=by injection h2 with h2;injection h2
  cases u with
  | nil=>exact hne _ h1 rfl
  | cons y u=>
    cases as with
    | nil=>cases z
    | cons b as=>cases h2⟩
theorem L0 {H:Hp} {r:Addr} {as:List Addr} {us:List (List Str)} (h:RowsA H r as us) (l:us.length<=100000) (lu:∀ u∈us,u.length<=100000):Rp H FT 2 (.ref r) (.lst (us.map dS)):=by
  refine .lst h.at' trivial (by rw [List.length_map,h.el.len];exact l) (by rw [List.length_map,List.length_map,h.el.len]) λ i v d h1 h2=> ?_;rw [List.getElem?_map] at h2;obtain ⟨u,eu,rfl⟩:=Option.map_eq_some_iff.mp h2;obtain ⟨a,ea,ga⟩:=h.el.get eu;rw [List.getElem?_map,ea] at h1;cases h1;exact NX ga trivial (lu u (List.mem_of_getElem? eu))
theorem Qp {K:PySem.W.Frag} {H:Hp} {Q:VK} {l p:Addr} {as bs:List Str} (c:SqL K H l (as.map V.str)) (d:SqL K H p (bs.map V.str)) (h:Q (.bl (!decide (as=bs))) H):JH K true (.ref l) (.ref p) H Q:=
  ⟨l,p,_,_,rfl,rfl,c,d,by simp [Bf],by simp [Bf],by rw [F9];exact h⟩
def RkR (r r':List Str):Prop:=(∃ nm ws,r=nm::ws/\r'=nm::ws/\nm∉fourN)\/(∃ nm l,r=nm::wW l/\r'=nm::l/\nm∈fourN/\l≠[]/\l.length<=60)
theorem OU {d:Dr} (ok:DrOk d):Al2 RkR (AM d (wW (d.th.map tN)) (wW (d.td.map AJ)) (wW d.wa) (wW d.we)) (EN d):=by
  have:=ok.h2;have:=ok.p2;have:=ok.wl;have:=ok.fl;unfold EN AM;refine Al2.app (Al2.app ⟨.inl ⟨_,_,rfl,rfl,by decide +kernel⟩, .inl ⟨_,_,rfl,rfl,by decide +kernel⟩, .inr ⟨_,_,rfl,rfl,by decide +kernel,ok.n1,by rw [List.length_map];omega⟩,trivial⟩ (Al2.map (λ _=> .inl ⟨_,_,rfl,rfl,by decide +kernel⟩) _))
    ⟨.inr ⟨_,_,rfl,rfl,by decide +kernel,ok.n2,by rw [List.length_map];omega⟩, .inr ⟨_,_,rfl,rfl,by decide +kernel,ok.n3,by omega⟩, .inr ⟨_,_,rfl,rfl,by decide +kernel,ok.n4,by omega⟩,trivial⟩
theorem Fh {xs:List Str} (h:∀ z∈xs,GC z):MFew.Spr opn clS (λ z=>z∈xs) xs xs:=G7 λ z hz=>hz
theorem DrOk.sprP {d:Dr} (ok:DrOk d):SprD d (d.th.map tN) (d.td.map AJ) d.wa d.we:=⟨Fh ok.g1,Fh ok.g2,Fh ok.g3,Fh ok.g4⟩
theorem Ma (nm:Str) (l:List Str):((((nm::wW l).map V.str).length:Nat):Int)=1+((((MFew.W opn clS l 0 l.length).map V.str).length:Nat):Int):=by
  rw [List.length_map,List.length_map,List.length_cons];show (((MFew.W opn clS l 0 l.length).length+1:Nat):Int)=_;omega
def CK (t1 t2 t3:Addr):Sp:=λ vs H Q _=>∃ (d:Dr) (v:V),vs=[.str (IP d),v]/\Rp H FT 3 v (dDr d)/\DrOk d/\Tb t1 t2 t3 H/\∀ H',SmT t1 t2 t3 H H'->Q (.bl true) H'
noncomputable abbrev BS:Stmt:=top 72
theorem sc__law_text_good:FnScope ["_law_text","_law_draft_here","_law_row","_law_rows_here","_law_plain_here","_law_words"] ["_law_text","_law_draft_here"] (Ai BS):=⟨rfl,rfl,rfl,by decide +kernel,rfl,by decide +kernel,by decide +kernel⟩
theorem FS {f:Addr} {fd:FuncData} (F:Fun K "_law_text_good" "_law_text_good" BS f fd) (T:Txt K mg c) (c__law_plain:CallF P w K mg base "_law_plain" 9 ["_law_rows_here"] (EL TT1 TT2 TT3)) (c__law_rows:CallF P w K mg base "_law_rows" 8 ["_law_draft_here","_law_number"] Dy) (c_gathered:CallF P w K mg base "gathered" 4 ["items"] (DU K)):FnOk P w K mg base CX0 10 f fd ["_law_text","_law_draft_here"] (CK TT1 TT2 TT3):=by
  refine F.ok sc__law_text_good (λ vs H Q E h=> ?_) (λ cdv A outer s H vs Q E hr h=> ?_)
  · obtain ⟨d,v,rfl,_⟩:=h;rfl
  · obtain ⟨d,v,rfl,rv,ok,tb,k⟩:=h;have hu:=hr.units0;have rok:=ok.rows ok.sprD;have rl:=ok.rlen (w1:=wW (d.th.map tN)) (w2:=wW (d.td.map AJ)) (w3:=wW d.wa) (w4:=wW d.we);have t2':=ok.t2;have ts:=G8 (rows:=AM d (wW (d.th.map tN)) (wW (d.td.map AJ)) (wW d.wa) (wW d.we)) (λ z=>by rw [z] at rl;simp at rl) λ r hr=>⟨(rok r hr).1,(rok r hr).2.1⟩;have tl:=Kg (rows:=AM d (wW (d.th.map tN)) (wW (d.td.map AJ)) (wW d.wa) (wW d.we)) (n:=181) λ r hr=>(rok r hr).2;have rk:=OU ok;have rokP:=ok.rows ok.sprP;have rlP:(EN d).length=d.tr+6:=ok.rlen;have pl:=LD ok ok.sprD;refine ⟨_,(Ac (AB (BL (AT (Ah (A8 (K:=K)) rfl (T.own _ (by decide)) boot_isinstance (Aa (pv 0) (Aa (Bt rfl (T.own _ (by decide)) boot_str) Ab))))) (Ae (Al El)) Ar)
      (Ac (Cu (i:=3) sc__law_text_good.nd rfl (Or.inl rfl) (Bi (K:=K) (AW (K:=K) PySem.F.plainAttrs_str PySem.F.slot_str_split PySem.F.type_str_split FM (pv 0) (Aa Ao Ab))) (λ _ _ _ _=>Ax) (λ _ _ _ _=>(AW (K:=K) PySem.F.plainAttrs_str PySem.F.slot_str_split PySem.F.type_str_split FM (pv 0) (Aa Ao Ab))))
      (Ac (Am (i:=4) sc__law_text_good.nd rfl (Or.inl rfl) (Ad c__law_plain hr (Aa (pv 3) Ab)))
      (Ac (AB (An (Rm hr.units) (pv 4) (Ad c__law_plain hr (Aa (Ad c__law_rows (hr.mono (by decide)) (Aa (pv 1) (Aa Af Ab))) Ab)) (Aq _)) (Ae (Al El)) Ar)
      (Ac (B4 PassesOwn.never rfl (Qc (K:=K) rfl (T.own _ (by decide)) (Aa (pv 3) (Aa (pv 4) Ab))) (Jj (K:=K) rfl (AY (AK (i:=2) sc__law_text_good.nd rfl (Or.inl rfl)) (AY (AK (i:=5) sc__law_text_good.nd rfl (Or.inl rfl)) Ft))) (Ac (AB (PW.pt (En (An (PN hu (K:=K)) (pv 2) (pv 5) (Aq _)) (Ez (An IL (Ah (AC (K:=K)) rfl (T.own _ (by decide)) boot_len (Aa (pv 2) Ab)) (Ak Ay Af (Ah (AC (K:=K)) rfl (T.own _ (by decide)) boot_len (Aa (Ad c_gathered (hr.mono (by decide)) (Aa (A0 (C7 (K:=K)) (pv 5) (AV Af) Ca) Ab)) Ab))) (Aq _))))) (Ae (Al El)) Ar)
      (Ae (AB (PW.pt (En (An (Gh hu (K:=K)) (pv 2) (pv 5) (Aq _)) (En (An (QN (K:=K)) (Ba (CI (K:=K)) (pv 2) Af (λ _ _=>rfl)) (Cj (Aa Ao (Aa Ao (Aa Ao (Aa Ao Ab))))) (by with_unfolding_all rfl)) (Ez (An IL (Ah (AC (K:=K)) rfl (T.own _ (by decide)) boot_len (Aa (pv 2) Ab)) (Ak Ay Af (Ah (AC (K:=K)) rfl (T.own _ (by decide)) boot_len (Aa (Ad c_gathered (hr.mono (by decide)) (Aa (A0 (C7 (K:=K)) (pv 5) (AV Af) Ca) Ab)) Ab))) (Aq _)))))) (Ae (Al El)) Ar))))
      (Ae (Al El))))))),?_⟩
    walk_at "w";refine AN (.str _) (kb (b:=true) (by decide +kernel)) ?_;walk_at "w";refine tyS ?_;walk_at "w";refine ⟨_,_,rfl,rfl,by decide,by unfold IP G3;rw [sizeLine_eq];omega,?_⟩;rw [show Txt.split (IP d) (Str.ofString "\n")=(AM d (wW (d.th.map tN)) (wW (d.td.map AJ)) (wW d.wa) (wW d.we)).map (Txt.join " ") from ts];clear tl ts;generalize IP d=txt;generalize AM d (wW (d.th.map tN)) (wW (d.td.map AJ)) (wW d.wa) (wW d.we)=rows at rok rl rk pl ⊢;row_lines H x1;refine ⟨p1,rfl,⟨_,SqL.of g1⟩,λ D hD=> ?_⟩;refine AL (m:=1) (G:=λ i=>dS (rows.getD i [])) (AH (SqL.of g1) rfl) hD (by rw [List.length_map,List.length_map];omega) ?_ ?_
    · intro i H' R hi s kk;rw [List.length_map,List.length_map] at hi;obtain ⟨q1,q2,q3⟩:=rok _ (L2.getD_mem (y:=[]) hi);rw [List.map_map,getD_map (e:=[]) hi];have:=FE q2;walk_at "w";refine tyS ?_;walk_at "w";refine ⟨_,_,rfl,rfl,by decide,by rw [sizeLine_eq];omega,?_⟩;rw [show Txt.split (Txt.join " " (rows.getD i [])) (Str.ofString " ")=rows.getD i [] from IM q1 q2];row_lines H' x2;exact kk H2 _ s2 (NX g2 n2 (by omega))
    intro H2 ys s2 hl2 r2;rw [List.length_map,List.length_map,AX (f:=dS)] at r2;obtain ⟨as,e2,A2,f2⟩:=MU r2;have R2:RowsA H2 D as rows:=M4 e2 A2 λ r hr=>(rok r hr).1;have s02:=s1.trans s2;clear r2 f2 hl2;walk_at "w";refine ⟨D,as,rows,EN d,rfl,R2,pl,by omega,tb.same s02,λ H3 q bs x3 hq R3=> ?_⟩;have x03:=(SmT.of s02).trans x3;walk_at "w";refine ⟨v,d,1,rfl,x03.rp rv,ok,λ H4 p4 as4 w1 w2 w3 w4 s4 n4 R4 spr4=> ?_⟩;have x04:=x03.trans (SmT.of s4);walk_at "w";refine ⟨p4,as4,_,EN d,rfl,R4,LD ok spr4,by rw [ok.rlen];omega,x04.tb tb,λ H5 q5 bs5 x5 n5 R5=> ?_⟩;have x35:=(SmT.of s4).trans x5;have x05:=x03.trans x35;have R35:=R3.smt x35;have lP:∀ u∈EN d,u.length<=100000:=λ u hu=>by have:=(rokP u hu).2.2;omega
    refine ⟨2,_,_,by decide,L0 R35 (by omega) lP,L0 R5 (by omega) lP,rfl,?_⟩;rw [Fw];walk_at "w";rw [if_neg (show ¬ (if true=true then !true else true)=true by decide)];walk_at "w";have R25:=R2.smt (x3.trans x35);have lE:=R25.el.len;have lE3:=R35.el.len;have lp:=pl.len;refine ⟨false,false,D,q,rfl,⟨_,SqL.of R25.at'⟩,⟨_,SqL.of R35.at'⟩,GZ (VP (t1:=false) (t2:=false) (SqL.of R25.at') (SqL.of R35.at') (by rw [List.length_map,List.length_map];omega)) (λ i σ H'=>∃ y2 y5,σ=[some (.str txt),some v,y2,some (.ref D),some (.ref q),y5]/\Same H5 H') ⟨_,_,rfl,Same.refl _⟩ (λ i σ H' ⟨_,_,_,s⟩=>s) ?_ ?_⟩
    · rintro i σ H6 H7 hi ⟨y2,y5,rfl,s6⟩ s7;rw [List.length_map] at hi;have hi':i<rows.length:=by omega
      have s57:=s6.trans s7;have er:rows[i]?=some (rows.getD i []):=by rw [List.getD_eq_getElem?_getD,List.getElem?_eq_getElem hi'];rfl
      have er':(EN d)[i]?=some ((EN d).getD i []):=by rw [List.getD_eq_getElem?_getD,List.getElem?_eq_getElem (by omega)];rfl
      obtain ⟨a,ea,ga⟩:=R25.el.get er;obtain ⟨b,eb,gb⟩:=R35.el.get er';have ga7:=s57 _ _ ga;have gb7:=s57 _ _ gb;rw [show ((as.map V.ref).getD i .non)= .ref a by rw [List.getD_eq_getElem?_getD,List.getElem?_map,ea];rfl,show ((bs.map V.ref).getD i .non)= .ref b by rw [List.getD_eq_getElem?_getD,List.getElem?_map,eb];rfl];have rr:=(rok _ (L2.getD_mem (y:=[]) hi')).2.2;rcases rk.get hi' with ⟨nm,ws,e1,e2,e3⟩ | ⟨nm,l,e1,e2,e3,hne,h60⟩
      · rw [e1] at ga7;rw [e2] at gb7;walk_at "w";refine Qp (SqL.of ga7) (SqL.of gb7) ?_;rw [decide_eq_true rfl];walk_at "w";refine DF (SqL.of ga7) (SqL.of gb7) ?_;rw [decide_eq_true rfl];walk_at "w";refine Bu (SqL.of ga7) (AQ (j:=0) (v:= .str nm) rfl) ?_;walk_at "w";row_lines H7 x8;refine ⟨p8,_,rfl, .inr (SqT.of g8),rfl,rfl,?_⟩;rw [show ([V.str (Str.ofString "thread"),V.str (Str.ofString "tread"),V.str (Str.ofString "warp"),V.str (Str.ofString "weft")]:List V)=fourN.map V.str from rfl,FD,decide_eq_false e3];walk_at "w";rw [if_neg (show ¬ (if false=true then !false else false)=true by decide)];walk_at "w";exact ⟨_,_,rfl,s57.trans s8⟩
      · rw [e1] at ga7;rw [e2] at gb7;by_cases e:wW l=l
        · walk_at "w";refine Qp (SqL.of ga7) (SqL.of gb7) ?_;rw [decide_eq_true (by rw [e])];walk_at "w";refine DF (SqL.of ga7) (SqL.of gb7) ?_;rw [decide_eq_true (by rw [e])];walk_at "w";refine Bu (SqL.of ga7) (AQ (j:=0) (v:= .str nm) rfl) ?_;walk_at "w";row_lines H7 x8;refine ⟨p8,_,rfl, .inr (SqT.of g8),rfl,rfl,?_⟩;rw [show ([V.str (Str.ofString "thread"),V.str (Str.ofString "tread"),V.str (Str.ofString "warp"),V.str (Str.ofString "weft")]:List V)=fourN.map V.str from rfl,FD,decide_eq_true e3];walk_at "w";rw [if_pos (show (if false=true then !true else true)=true by decide)];walk_at "w";refine Au (SqL.of (s8 _ _ ga7)) ?_;walk_at "w";refine BQ (SqL.of (s8 _ _ gb7)) ?_;rw [Fs (by decide),show (nm::l).map V.str=V.str nm::l.map V.str from rfl,show ((1:Int).toNat)=1 from rfl,List.drop_one,List.tail_cons];row_lines H8 x9;walk_at "w";refine ⟨p9,l,rfl, .inl (SqL.of g9),hne,h60,λ H10 p10 s10 n10 g10=> ?_⟩;walk_at "w";refine Au (SqL.of g10) ?_;walk_at "w";refine Le (λ q=>absurd (Ma nm l) q) (λ _=> ?_);walk_at "w";exact ⟨_,_,rfl,s57.trans (s8.trans (s9.trans s10))⟩
        · walk_at "w";refine Qp (SqL.of ga7) (SqL.of gb7) ?_;rw [decide_eq_false (λ z=>e (by injection z))];walk_at "w";refine Au (SqL.of ga7) ?_;walk_at "w";refine BQ (SqL.of gb7) ?_;rw [Fs (by decide),show (nm::l).map V.str=V.str nm::l.map V.str from rfl,show ((1:Int).toNat)=1 from rfl,List.drop_one,List.tail_cons];row_lines H7 x9;walk_at "w";refine ⟨p9,l,rfl, .inl (SqL.of g9),hne,h60,λ H10 p10 s10 n10 g10=> ?_⟩;walk_at "w";refine Au (SqL.of g10) ?_;walk_at "w";refine Le (λ q=>absurd (Ma nm l) q) (λ _=> ?_);walk_at "w";have s710:=s9.trans s10;refine DF (SqL.of (s710 _ _ ga7)) (SqL.of (s710 _ _ gb7)) ?_;rw [decide_eq_false (λ z=>e (by injection z))];walk_at "w";exact ⟨_,_,rfl,s57.trans s710⟩
    · rintro σ H6 ⟨y2,y5,rfl,s6⟩;walk_at "w";exact k H6 (x05.trans (SmT.of s6))
def DY (c:Cs):Sp:=λ vs H Q _=>∃ x d,vs=[.ref x]/\DrAt c.Draft H x d/\Q (nV d.td.length) H
noncomputable abbrev CU:Stmt:=BY (top 28) 3
theorem Hr:FnScope ["self"] ["self"] (Ai CU):=⟨rfl,rfl,rfl,by decide +kernel,rfl,by decide +kernel,by decide +kernel⟩
theorem G5 {f:Addr} {fd:FuncData} (F:Fun K "picks" "Draft.picks" CU f fd) (T:Txt K mg c):FnOk P w K mg base CX0 1 f fd ["self"] (DY c):=by
  refine F.ok Hr (λ vs H Q E h=> ?_) (λ cdv A outer s H vs Q E hr h=> ?_)
  · obtain ⟨x,d,rfl,_⟩:=h;rfl
  · obtain ⟨x,d,rfl,⟨dx,v1,v2,v3,v4,v5,h0,h1,h2,h3,h4,h5⟩,k⟩:=h;obtain ⟨m3,a3,vs3,em3,rfl,e3,l3,b3,el3⟩:=HG h3;refine ⟨_,(Ae (Al (Ah (AC (K:=K)) rfl (T.own _ (by decide)) boot_len (Aa (B7 (K:=K) (pv 0) rfl) Ab)))),?_⟩;walk_at "w";refine ⟨_,_,_,_,_,rfl,h0,T.kd_Draft.cl,T.na_Draft_treading,rfl,?_⟩;walk_at "w";refine Fu (SqT.of e3) ?_;rw [l3,List.length_map];exact k
theorem Of {l:List Nat} (h:l.length<=100):SmD (dL l):= .lst (by rw [List.length_map];exact h) λ d hd=>by
  obtain ⟨i,_,rfl⟩:=List.mem_map.mp hd;exact .int _
theorem Ni {l:List Str} (h:l.length<=100):SmD (dS l):= .lst (by rw [List.length_map];exact h) λ d hd=>by
  obtain ⟨i,_,rfl⟩:=List.mem_map.mp hd;exact .str _
theorem LG {ls:List (List Nat)} (h:ls.length<=100) (r:∀ l∈ls,l.length<=16):SmD (dLL ls):= .lst (by rw [List.length_map];exact h) λ d hd=>by
  obtain ⟨l,hl,rfl⟩:=List.mem_map.mp hd;exact Of (Nat.le_trans (r l hl) (by decide))
theorem OE {d:Dr} (ok:DrOk d):SmD (dDr d):=by
  have h2:=ok.h2;have p2:=ok.p2;have t2:=ok.t2;have il:=ok.il;have wl:=ok.wl;have fl:=ok.fl;refine .tup (show 7<=100 by decide) λ e he=> ?_;simp only [List.mem_cons,List.not_mem_nil,or_false] at he;rcases he with rfl | rfl | rfl | rfl | rfl | rfl | rfl
  · exact .int _
  · exact .int _
  · exact Of (by omega)
  · exact LG (by omega) ok.tiL
  · exact LG (by omega) ok.tdL
  · exact Ni (by omega)
  · exact Ni (by omega)
theorem N7 {H:Hp} {F:Addr->Prop} {n:Nat} {v:V} {d:Dt} (r:Rp H F n v d):Rp H (λ a=>F a/\H a≠none) n v d:=by
  induction r with
  | non=>exact .non
  | bl b=>exact .bl b
  | int i=>exact .int i
  | str z=>exact .str z
  | lst h f b l e ih=>exact .lst h ⟨f,by rw [h];simp⟩ b l ih
  | tup h b l e ih=>exact .tup h b l ih
theorem Ap.obj {F:Addr->Prop} {k:Nat} {H H1:Hp} (h:Ap F k H H1) {b:Addr} {o:HO} (e:H b=some o) (n:∀ xs,o≠ .lst xs):H1 b=some o:=(h b o e).elim id λ ⟨_,xs,_,eo,_⟩=>absurd eo (n xs)
theorem Ld {F:Addr->Prop} {k:Nat} {H H':Hp} {T:Addr} {q:Str} (h:LamT H T q) (a:Ap F k H H'):LamT H' T q:=by
  obtain ⟨ps,h1,h2,h3⟩:=h;refine ⟨ps,a.obj h1 (λ xs z=>by cases z),h2,λ pos cv e=> ?_⟩;obtain ⟨c',oc,e1,e2,e3⟩:=h3 pos cv e;exact ⟨c',oc,e1,a.obj e2 (λ xs z=>by unfold exO at z;cases z),e3⟩
theorem Tb.ap {F:Addr->Prop} {k:Nat} {H H':Hp} {t1 t2 t3:Addr} (h:Tb t1 t2 t3 H) (a:Ap F k H H'):Tb t1 t2 t3 H':=⟨Ld h.l1 a,Ld h.l2 a,Ld h.l3 a,h.n12,h.n13,h.n23⟩
theorem Ut {K:PySem.W.Frag} {H:Hp} {a:Addr} {xs:List V} (h:SqL K H a xs):SqL K (nt H) a xs:=by
  rcases h with (h | ⟨o,h⟩) | h
  · exact .inl (.inl (Gd h))
  · exact .inl (.inr ⟨o,Hm h λ _ z=>by cases z⟩)
  · exact .inr h
theorem Same.nt_trans {t1 t2 t3:Addr} {H H1 H2:Hp} (s:Same (nt H) H1) (x:SmT t1 t2 t3 H1 H2):Same (nt H) H2:=λ b o e=>x.st b o (Hm (s b o e) (Hh e).2)
noncomputable abbrev Nz:Stmt:=top 73
theorem sc_law:FnScope ["_law_script","_law_due","_law_draft_here","_law_turn","_law_text","_law_told","_law_other","_law_found"] ["_law_script"] (Ai Nz):=⟨rfl,rfl,rfl,by decide +kernel,rfl,by decide +kernel,by decide +kernel⟩
theorem Rw {f:Addr} {fd:FuncData} (F:Fun K "law" "law" Nz f fd) (T:Txt K mg c) (c__law_draft:CallF P w K mg base "_law_draft" 2 ["_law_script","_law_most"] (ES K)) (c__law_copied:CallF P w K mg base "_law_copied" (4+1) ["_law_thing"] (BI 4)) (c__law_made:CallF P w K mg base "_law_made" 8 ["_law_parts"] (Fq c)) (c_draft_text:CallF P w K mg base "draft_text" 5 ["draft"] (ET c)) (c__law_text_good:CallF P w K mg base "_law_text_good" 10 ["_law_text","_law_draft_here"] (CK TT1 TT2 TT3)) (c_read_draft:CallF P w K mg base "read_draft" 11 ["text"] (CY K c TT1 TT2 TT3)) (d_Draft_told:Gn P w K mg base c.Draft "told" 1 ["self"] (ER c)) (c__law_same:CallF P w K mg base "_law_same" (4+1) ["_law_found","_law_due"] (Cd 4)) (c__law_spoilt:CallF P w K mg base "_law_spoilt" (4+1) ["_law_told"] (Bo 4)) (c__law_rows:CallF P w K mg base "_law_rows" 8 ["_law_draft_here","_law_number"] Dy) (d_Draft_ends:Gn P w K mg base c.Draft "ends" 1 ["self"] (EQ c)) (d_Draft_picks:Gn P w K mg base c.Draft "picks" 1 ["self"] (DY c)):FnOk P w K mg base CX0 12 f fd ["_law_script"] (Jq K [TT3,TT2,TT1]):=by
  refine F.ok sc_law (λ vs H Q E h=> ?_) (λ cdv A outer s H vs Q E hr h=> ?_)
  · obtain ⟨a,ns,rfl,_⟩:=h;rfl
  · obtain ⟨a,ns,rfl,sa,hn,hT,nd,k⟩:=h;have hu:=hr.units0;have nd2:TT1≠TT2/\TT1≠TT3/\TT2≠TT3:=by
      simp only [List.nodup_cons,List.mem_cons,List.not_mem_nil,or_false,not_or] at nd;exact ⟨λ z=>nd.2.1 z.symm,λ z=>nd.1.2 z.symm,λ z=>nd.1.1 z.symm⟩
    have tb:Tb TT1 TT2 TT3 H:=⟨FY (hT _ (by simp)),FY (hT _ (by simp)),FY (hT _ (by simp)),nd2.1,nd2.2.1,nd2.2.2⟩;refine ⟨_,(Ac (Am (i:=1) sc_law.nd rfl (Or.inl rfl) (Ad c__law_draft (hr.mono (by decide)) (Aa (pv 0) (Aa Af Ab))))
      (Ac (Am (i:=2) sc_law.nd rfl (Or.inl rfl) (Ad c__law_made (hr.mono (by decide)) (Aa (Ad c__law_copied (hr.mono (by decide)) (Aa (pv 1) Ab)) Ab)))
      (Ac (B4 PassesOwn.never rfl (Ey rfl (T.own _ (by decide)) (Aa Af Ab)) (AK (i:=3) sc_law.nd rfl (Or.inl rfl)) (Ac (Am (i:=4) sc_law.nd rfl (Or.inl rfl) (Ad c_draft_text (hr.mono (by decide)) (Aa (pv 2) Ab)))
      (Ac (AB (BL (AT (Ad c__law_text_good (hr.mono (by decide)) (Aa (pv 4) (Aa (pv 1) Ab))))) (Ae (Al El)) Ar)
      (Ac (Am (i:=5) sc_law.nd rfl (Or.inl rfl) (EF (Ad c_read_draft hr (Aa (pv 4) Ab)) d_Draft_told (hr.mono (by decide))))
      (Ac (AB (BL (AT (Ad c__law_same (hr.mono (by decide)) (Aa (pv 5) (Aa (pv 1) Ab))))) (Ae (Al El)) Ar)
      (Ae (Az (Ad c__law_spoilt (hr.mono (by decide)) (Aa (pv 5) Ab)))))))))
      (Ac (Am (i:=6) sc_law.nd rfl (Or.inl rfl) (AW (K:=K) PySem.F.plainAttrs_str PySem.F.slot_str_join PySem.F.type_str_join (Gc (K:=K)) Ao (Aa (AA (Bi (K:=K) (Ad c__law_rows (hr.mono (by decide)) (Aa (pv 1) (Aa (Ah (Qa (K:=K)) rfl (T.own _ (by decide)) boot_sum (Aa (pv 0) Ab)) Ab)))) (λ _ _ _ _=>Ax) (λ _ _ _ _=>(AW (K:=K) PySem.F.plainAttrs_str PySem.F.slot_str_join PySem.F.type_str_join (Gc (K:=K)) Ao (Aa (pv 0) Ab)))) Ab)))
      (Ac (Am (i:=7) sc_law.nd rfl (Or.inl rfl) (Ad c_read_draft hr (Aa (pv 6) Ab)))
      (Ae (Al (Cg (Ad c__law_same (hr.mono (by decide)) (Aa (EF (pv 7) d_Draft_told (hr.mono (by decide))) (Aa (pv 1) Ab))) (Cg (A6 BH (EF (pv 7) d_Draft_ends (hr.mono (by decide))) (Ah (AC (K:=K)) rfl (T.own _ (by decide)) boot_len (Aa (Ba (Fi (K:=K)) (pv 1) Af (λ _ _=>rfl)) Ab)) (Aq _)) (Du (A6 BH (EF (pv 7) d_Draft_picks (hr.mono (by decide))) (Ah (AC (K:=K)) rfl (T.own _ (by decide)) boot_len (Aa (Ba (Fi (K:=K)) (pv 1) Af (λ _ _=>rfl)) Ab)) (Aq _)))))))))))),?_⟩
    walk_at "w";refine ⟨a,ns,16,rfl,sa,hn,by decide,by decide,λ H1 pd d s1 hpd r1 ok=> ?_⟩;obtain ⟨m1,ad,z0,z1,z2,z3,z4,z5,z6,em1,ead,had,o0,o1,o2,o3,o4,o5,o6⟩:=JJ r1;cases em1;cases ead;obtain ⟨c2,rfl,ec2,_,_⟩:=Gr o2;obtain ⟨m4,c4,us4,_,rfl,ec4,_,lc4,_⟩:=C4 o4;walk_at "w";refine ⟨_,_,rfl,r1.any,λ H2 rh s2 r2=> ?_⟩;walk_at "w";refine ⟨_,d,rfl,r2.any,ok,λ H3 x s3 hx D3=> ?_⟩;have s13:=s2.trans s3;have s03:=s1.trans s13;have tb3:=tb.same s03;have due:∀ {H':Hp},Same (nt H3) H'->Rp H' FT 3 (.ref pd) (dDr d):=λ s=>(HK (r1.any.same s13)).same s;have drf:∀ {H':Hp},Same (nt H3) H'->DrAt c.Draft H' x d:=λ s=>(V6 D3).same s;walk_at "w";refine ⟨_,rfl,by decide,by decide,Cq (H0:=nt H3) (IC (n:=2)) (λ i σ H'=>∃ u v w,σ=[some (.ref a),some (.ref pd),some (.ref x),u,v,w,none,none]/\Same (nt H3) H'/\Tb TT1 TT2 TT3 H') ⟨_,_,_,rfl,Pd,tb3⟩ (λ i σ H' ⟨_,_,_,_,s,_⟩=>s) ?_ ?_⟩
    · rintro i σ H' H4 hi ⟨u,v,w,rfl,s',t'⟩ s4;have s34:=s'.trans s4;have t4:=t'.same s4;clear s' t' s4;walk_at "w";refine ⟨x,d,rfl,drf s34,ok,λ H5 s5=> ?_⟩;have s35:=s34.trans s5;walk_at "w";refine ⟨d,_,rfl,due s35,ok,t4.same s5,λ H6 x6=> ?_⟩;have s36:=Same.nt_trans s35 x6;walk_at "w";refine ⟨d,_,_,_,_,rfl,ok.sprD,ok,x6.tb (t4.same s5),λ H7 y x7 ny D7=> ?_⟩;have s37:=Same.nt_trans s36 x7;have t7:=x7.tb (x6.tb (t4.same s5));obtain ⟨dx,w1,w2,w3,w4,w5,h0,_⟩:=id D7;walk_at "w";refine ⟨_,_,_,rfl,h0,rfl,?_⟩;walk_at "w";refine ⟨y,d,rfl,D7,λ H8 p8 s8 hp8 r8=> ?_⟩;walk_at "w";refine ⟨_,_,dDr d,rfl,r8.any,due (s37.trans s8),λ H9 s9=> ?_⟩;walk_at "w";refine ⟨_,λ b=>FN H7 b/\H8 b≠none,0,rfl,Nst.of ((N7 r8).same s9) (OE ok),by show 0+cN 3<=10000000;decide,λ b hb z=>hb.2 (s9.free z),λ H10 a10=> ?_⟩;walk_at "w";refine ⟨_,_,_,rfl,λ b o e=>a10.out (s9 _ _ (s8 _ _ (s37 _ _ e))) λ f=> ?_,(t7.same (s8.trans s9)).ap a10⟩;have f1:H7 b=none:=f.1;rw [s37 _ _ e] at f1;cases f1
    · rintro σ H4 ⟨u,v,w,rfl,s34,t4⟩;have sa4:SqL K H4 a (ns.map V.int):=s34.seq (Ut (s03.seq sa));walk_at "w";refine tyS ?_;walk_at "w";refine N6 sa4 ?_;walk_at "w";refine ⟨_,d,_,rfl,due s34,ok,λ H5 p5 as w1 w2 w3 w4 s5 n5 R5 spr=> ?_⟩;have s35:=s34.trans s5;have rok:=ok.rows spr;have rl:=ok.rlen (w1:=w1) (w2:=w2) (w3:=w3) (w4:=w4);have t2:=ok.t2;have rd':∀ H' (Q':VK),Tb TT1 TT2 TT3 H'->(∀ H'' y,SmT TT1 TT2 TT3 H' H''->H' y=none->DrAt c.Draft H'' y d->Q' (.ref y) H'')->CY K c TT1 TT2 TT3 [.str (G3 (AM d w1 w2 w3 w4))] H' Q' E0:=λ H' Q' t q=>⟨d,w1,w2,w3,w4,rfl,spr,ok,t,q⟩;generalize AM d w1 w2 w3 w4=rows at R5 rok rl rd';walk_at "w";refine ⟨p5,rfl,⟨_,SqL.of R5.at'⟩,λ D6 hD6=> ?_⟩;have lE:=R5.el.len;refine BF (G:=λ i=>Txt.join " " (rows.getD i [])) (AH (SqL.of R5.at') rfl) hD6 (by rw [List.length_map];omega) ?_ ?_
      · intro i H' R hi s kk;rw [List.length_map] at hi;have hi':i<rows.length:=by omega
        have er:rows[i]?=some (rows.getD i []):=by rw [List.getD_eq_getElem?_getD,List.getElem?_eq_getElem hi'];rfl
        obtain ⟨a',ea,ga⟩:=R5.el.get er;have ev:((as.map V.ref).getD i .non)= .ref a':=by rw [List.getD_eq_getElem?_getD,List.getElem?_map,ea];rfl
        rw [ev];obtain ⟨q1,q2,q3⟩:=rok _ (L2.getD_mem (y:=[]) hi');walk_at "w";refine tyS ?_;walk_at "w";refine ⟨_,a',_,rfl,rfl,SqL.of (s _ _ ga),?_,kk H' (Same.refl _)⟩;have:=Ew λ z hz=>(q2 z hz).le;show _+(rows.getD i []).length*1<=_;omega
      intro H6 s6 g6;rw [List.length_map,lE,AX] at g6;walk_at "w";refine ⟨_,D6,_,rfl,rfl,SqL.of g6,?_,?_⟩
      · have:=Ew (zs:=rows.map (Txt.join " ")) (c:=181*101) λ z hz=>by
          obtain ⟨r,h1,rfl⟩:=List.mem_map.mp hz;obtain ⟨q1,q2,q3⟩:=rok r h1;exact Nat.le_trans (FE q2) (Nat.mul_le_mul_right _ q3)
        rw [List.length_map] at this ⊢;show _+rows.length*1<=_;omega
      walk_at "w";refine rd' _ _ (t4.same (s5.trans s6)) λ H7 y x7 ny D7=> ?_;have s37:=Same.nt_trans (s35.trans s6) x7;obtain ⟨dx,y1,y2,y3,y4,y5,h0,_⟩:=id D7;walk_at "w";refine ⟨_,_,_,rfl,h0,rfl,?_⟩;walk_at "w";refine ⟨y,d,rfl,D7,λ H8 p8 s8 hp8 r8=> ?_⟩;walk_at "w";refine ⟨_,_,dDr d,rfl,r8.any,due (s37.trans s8),λ H9 s9=> ?_⟩;have s39:=s37.trans (s8.trans s9);have D9:=D7.same (s8.trans s9);have h9:=(s8.trans s9) _ _ h0;have g2:=s39 _ _ (Hm (s13 _ _ had) λ _ z=>by cases z);walk_at "w";refine ⟨_,_,_,rfl,h9,rfl,?_⟩;walk_at "w";refine ⟨y,d,rfl,D9,?_⟩;walk_at "w";refine DE (SqT.of g2) (AQ (j:=2) rfl) ?_;walk_at "w";refine Au (SqL.of (s39 _ _ (Gd (s13 _ _ ec2)))) ?_;walk_at "w";refine A5 (λ _=> ?_) (λ z=>absurd (by rw [List.length_map]) z);walk_at "w";refine ⟨_,_,_,rfl,h9,rfl,?_⟩;walk_at "w";refine ⟨y,d,rfl,D9,?_⟩;walk_at "w";refine DE (SqT.of g2) (AQ (j:=4) rfl) ?_;walk_at "w";refine Au (SqL.of (s39 _ _ (Gd (s13 _ _ ec4)))) ?_;walk_at "w";rw [lc4,List.length_map,decide_eq_true rfl];exact k _
end
end K05
namespace K05
open PySem L2 PySem.Spec PyProof.Rows
theorem all_mk {l:PySem.W.OpenLaw} {w:World} {K:PySem.W.Frag} {h:Heap} {mg:Str->Option Value} {fa:Addr} (X:K.In h) (G:h.Ns mainGlobals mg) (hfa:mg "law"=some (.ref fa))
    {C_Draft f0 f1 f2 f3 f4 f5 f6 f7 f8 f9 f10 f11 f12 f13 f14 f15 f16 f17 f18 f19 f20 f21 f22 f23 f24 f25 f26 f27 f28 f29 f30 f31 f32 f33 f34 f35 f36 f37 f38 f39 f40 f41 f42 f43 f44 f45 f46 f47 f48 f49 f50 f51 f52 f53:Addr} {d0 d1 d2 d3 d4 d5 d6 d7 d8 d9 d10 d11 d12 d13 d14 d15 d16 d17 d18 d19 d20 d21 d22 d23 d24 d25 d26 d27 d28 d29 d30 d31 d32 d33 d34 d35 d36 d37 d38 d39 d40 d41 d42 d43 d44 d45 d46 d47 d48 d49 d50 d51 d52 d53:FuncData}
    {cc1 TT1 cc2 TT2 cc3 TT3:Addr} {ts:List Addr}
    (T0:Txt K mg ⟨C_Draft⟩)
    (D0:DefAt K mg "_law_same" CH ["_law_found","_law_due"] f0 d0)
    (D1:DefAt K mg "is_whole" E3 ["thing"] f1 d1)
    (D2:DefAt K mg "is_among" Fb ["thing","least","most"] f2 d2)
    (D3:DefAt K mg "number_of" Eo ["word"] f3 d3)
    (D4:DefAt K mg "number_text" CW ["number"] f4 d4)
    (D5:DefAt K mg "times_of" E1 ["word"] f5 d5)
    (D6:DefAt K mg "can_stand" DZ ["word","held","times","fits"] f6 d6)
    (D7:DefAt K mg "taken" JV ["word","held","times"] f7 d7)
    (D8:DefAt K mg "spread" Hz ["words","most","fits"] f8 d8)
    (D9:DefAt K mg "as_group" Fd ["items","first","behind","told"] f9 d9)
    (D10:DefAt K mg "fewest_words" CA ["items","first","behind","told"] f10 d10)
    (D11:DefAt K mg "gathered" Fe ["items"] f11 d11)
    (D12:DefAt K mg "is_colour" DQ ["thing"] f12 d12)
    (D13:DefAt K mg "need" Lc ["holds","words"] f13 d13)
    (D14:DefAt K mg "is_list" F2 ["thing","least","most"] f14 d14)
    (D15:DefAt K mg "is_rising" Eg ["thing","most"] f15 d15)
    (D16:DefAt K mg "are_rising" Dx ["thing","most"] f16 d16)
    (D17:DefAt K mg "are_colours" C2 ["thing","many"] f17 d17)
    (D18:DefAt K mg "need_draft" De ["shafts","treadles","threading","ties","treading","warp","weft"] f18 d18)
    (j19:Mk K C_Draft f19)
    (D19:FnA K "__init__" "Draft.__init__" BW ["self","shafts","treadles","threading","ties","treading","warp","weft"] f19 d19)
    (j20:Meth K C_Draft "told" f20)
    (D20:FnA K "told" "Draft.told" Dv ["self"] f20 d20)
    (j21:Meth K C_Draft "ends" f21)
    (D21:FnA K "ends" "Draft.ends" DD ["self"] f21 d21)
    (D22:DefAt K mg "_law_mixed" Do ["_law_cell","_law_k"] f22 d22)
    (D23:DefAt K mg "_law_cells" DC ["_law_script","_law_first"] f23 d23)
    (D24:DefAt K mg "_law_numbers" Ct ["_law_mask","_law_most"] f24 d24)
    (D25:DefAt K mg "_law_copied" BZ ["_law_thing"] f25 d25)
    (D26:DefAt K mg "_law_draft" Df ["_law_script","_law_most"] f26 d26)
    (D27:DefAt K mg "_law_spoilt" B0 ["_law_told"] f27 d27)
    (D28:DefAt K mg "number_texts" Cm ["numbers"] f28 d28)
    (D29:DefAt K mg "numbers_told" Cr ["words"] f29 d29)
    (D30:DefAt K mg "words_of" E5 ["row"] f30 d30)
    (D31:DefAt K mg "tie_words" Ei ["shafts"] f31 d31)
    (D32:DefAt K mg "pick_word" DR ["treadles"] f32 d32)
    (D33:DefAt K mg "trodden_words" B6 ["word"] f33 d33)
    (D34:DefAt K mg "rising_words" Cp ["words","most"] f34 d34)
    (D35:DefAt K mg "is_pick_word" CD ["word","treadles"] f35 d35)
    (D36:DefAt K mg "words_behind" Cv ["rows","number","name"] f36 d36)
    (D37:DefAt K mg "read_count" Dj ["rows","number","name","most"] f37 d37)
    (D38:DefAt K mg "draft_text" Dp ["draft"] f38 d38)
    (D39:DefAt K mg "read_tie" EX ["rows","number","shafts"] f39 d39)
    (D40:DefAt K mg "read_items" Dg ["words","number","most","fits"] f40 d40)
    (D41:DefAt K mg "read_threading" Br ["rows","number","shafts"] f41 d41)
    (D42:DefAt K mg "read_treading" Bz ["rows","number","treadles"] f42 d42)
    (D43:DefAt K mg "read_colours" Ck ["rows","number","name","many"] f43 d43)
    (D44:DefAt K mg "read_draft" Dw ["text"] f44 d44)
    (D45:DefAt K mg "_law_made" Ep ["_law_parts"] f45 d45)
    (D46:DefAt K mg "_law_pick" DS ["_law_pick_here"] f46 d46)
    (D47:DefAt K mg "_law_again" Ds ["_law_items","_law_at","_law_size","_law_times"] f47 d47)
    (D48:DefAt K mg "_law_grouped" BK ["_law_items","_law_number"] f48 d48)
    (D49:DefAt K mg "_law_rows" DV ["_law_draft_here","_law_number"] f49 d49)
    (D50:DefAt K mg "_law_plain" Cb ["_law_rows_here"] f50 d50)
    (D51:DefAt K mg "_law_text_good" BS ["_law_text","_law_draft_here"] f51 d51)
    (j52:Meth K C_Draft "picks" f52)
    (D52:FnA K "picks" "Draft.picks" CU ["self"] f52 d52)
    (D53:DefAt K mg "law" Nz ["_law_script"] f53 d53)
    (hlb:∀ (s:Shared) (u:Value),BindsTo s d53 ⟨[u],[]⟩ [("_law_script",u)])
    (hts:ts=[TT3,TT2,TT1])
    (hcc1:d41.code= .ref cc1)
    (hhd1:PySem.W.codeHdIn K cc1 TT1=true)
    (hcc2:d42.code= .ref cc2)
    (hhd2:PySem.W.codeHdIn K cc2 TT2=true)
    (hcc3:d50.code= .ref cc3)
    (hhd3:PySem.W.codeHdIn K cc3 TT3=true)
    : ∃ fd:FuncData,(∀ (s:Shared) (u:Value),BindsTo s fd ⟨[u],[]⟩ [("_law_script",u)])/\(∀ h':Heap,K.In h'->∀ T∈ts,∃ c,PySem.W.CodeHd h' c T)/\∀ base:Heap,K.In base->base.Ns mainGlobals mg->(∀ T∈ts,base.BuiltinsAt mg T)->FnOk l.prog w K mg base CX0 12 fa fd ["_law_script"] (Jq K ts):=by
  subst hts;cases hfa.symm.trans D53.at';have T:=T0;have hCd:∀ h':Heap,K.In h'->∀ T∈[TT3,TT2,TT1],∃ c,PySem.W.CodeHd h' c T:=by
    intro _ X2 T hT;rcases List.mem_cons.mp hT with z | hT
    · subst z;exact ⟨cc3,PySem.W.codeHd_of_K X2 hhd3⟩
    rcases List.mem_cons.mp hT with z | hT
    · subst z;exact ⟨cc2,PySem.W.codeHd_of_K X2 hhd2⟩
    rcases List.mem_cons.mp hT with z | hT
    · subst z;exact ⟨cc1,PySem.W.codeHd_of_K X2 hhd1⟩
    cases hT
  exact ⟨_,hlb,hCd,λ base Xb _ hbt=>by
    have hd1:=PySem.W.codeHd_of_K Xb hhd1;have hd2:=PySem.W.codeHd_of_K Xb hhd2;have hd3:=PySem.W.codeHd_of_K Xb hhd3;have c_is_whole:=D1.call (CQ (P:=l.prog) (w:=w) (base:=base) D1.fn T);have c_is_among:=D2.call (CG (P:=l.prog) (w:=w) (base:=base) D2.fn T c_is_whole);have c_number_of:=D3.call (Ce (P:=l.prog) (w:=w) (base:=base) D3.fn T c_is_among);have c_number_text:=D4.call (Hj (P:=l.prog) (w:=w) (base:=base) D4.fn T);have c_times_of:=D5.call (CP (P:=l.prog) (w:=w) (base:=base) D5.fn T c_number_of c_is_among);have c_can_stand:(∃ fs,mg "can_stand"=some (.ref fs)/\PySem.W.keepIn K (.ref fs)=true)/\∀ (base':Heap) (fl:Addr) (sL:Sp),LamV l.prog w K mg base' 6 fl sL->CallF l.prog w K mg base' "can_stand" 7 ["word","held","times","fits"] (Dh fl sL):=⟨⟨_,D6.at',D6.fn.kp⟩,λ base' fl sL lv=>by
      have c_is_whole:=D1.call (CQ (P:=l.prog) (w:=w) (base:=base') D1.fn T);have c_is_among:=D2.call (CG (P:=l.prog) (w:=w) (base:=base') D2.fn T c_is_whole);have c_number_of:=D3.call (Ce (P:=l.prog) (w:=w) (base:=base') D3.fn T c_is_among);have c_times_of:=D5.call (CP (P:=l.prog) (w:=w) (base:=base') D5.fn T c_number_of c_is_among);have c_can_stand:=D6.call (Dm (P:=l.prog) (w:=w) (base:=base') lv D6.fn T c_times_of);exact c_can_stand⟩
    have c_taken:=D7.call (Hf (P:=l.prog) (w:=w) (base:=base) D7.fn T c_times_of);have c_spread:(∃ fs,mg "spread"=some (.ref fs)/\PySem.W.keepIn K (.ref fs)=true)/\∀ (base':Heap) (fl:Addr) (sL:Sp),LamV l.prog w K mg base' 6 fl sL->CallF l.prog w K mg base' "spread" 8 ["words","most","fits"] (EC K fl sL):=⟨⟨_,D8.at',D8.fn.kp⟩,λ base' fl sL lv=>by
      have c_is_whole:=D1.call (CQ (P:=l.prog) (w:=w) (base:=base') D1.fn T);have c_is_among:=D2.call (CG (P:=l.prog) (w:=w) (base:=base') D2.fn T c_is_whole);have c_number_of:=D3.call (Ce (P:=l.prog) (w:=w) (base:=base') D3.fn T c_is_among);have c_times_of:=D5.call (CP (P:=l.prog) (w:=w) (base:=base') D5.fn T c_number_of c_is_among);have c_can_stand:=D6.call (Dm (P:=l.prog) (w:=w) (base:=base') lv D6.fn T c_times_of);have c_taken:=D7.call (Hf (P:=l.prog) (w:=w) (base:=base') D7.fn T c_times_of);have c_spread:=D8.call (IV (P:=l.prog) (w:=w) (base:=base') lv D8.fn T c_can_stand c_taken);exact c_spread⟩
    have c_as_group:=D9.call (Kb (P:=l.prog) (w:=w) (base:=base) D9.fn T c_number_text);have c_fewest_words:=D10.call (GM (P:=l.prog) (w:=w) (base:=base) D10.fn T c_as_group);have c_gathered:=D11.call (Ki (P:=l.prog) (w:=w) (base:=base) D11.fn T c_fewest_words);have c_is_colour:=D12.call (JU (P:=l.prog) (w:=w) (base:=base) D12.fn T);have c_need:=D13.call (Pq (P:=l.prog) (w:=w) (base:=base) D13.fn T);have c_is_list:=D14.call (K4 (P:=l.prog) (w:=w) (base:=base) D14.fn T c_is_among);have c_is_rising:=D15.call (JI (P:=l.prog) (w:=w) (base:=base) D15.fn T c_is_among);have c_are_rising:=D16.call (Ii (P:=l.prog) (w:=w) (base:=base) D16.fn T c_is_rising);have c_are_colours:=D17.call (Hq (P:=l.prog) (w:=w) (base:=base) D17.fn T c_is_list c_is_colour);have c_need_draft:=D18.call (Ik (P:=l.prog) (w:=w) (base:=base) D18.fn T c_need c_is_among c_is_list c_are_rising c_are_colours);have m_Draft:LH l.prog w K mg base "Draft" C_Draft 6 ["self","shafts","treadles","threading","ties","treading","warp","weft"] _:=⟨_,_,T.g_Draft,j19,FV (P:=l.prog) (w:=w) (base:=base) D19.fn T c_need_draft,D19.bi⟩;have d_Draft_told:Gn l.prog w K mg base C_Draft "told" 1 ["self"] _:=⟨_,_,T.kd_Draft.cl,j20,Ie (P:=l.prog) (w:=w) (base:=base) D20.fn T,D20.bi⟩;have d_Draft_ends:Gn l.prog w K mg base C_Draft "ends" 1 ["self"] _:=⟨_,_,T.kd_Draft.cl,j21,Ib (P:=l.prog) (w:=w) (base:=base) D21.fn T,D21.bi⟩;have c__law_mixed:=D22.call (Ic (P:=l.prog) (w:=w) (base:=base) D22.fn T);have c__law_cells:=D23.call (HY (P:=l.prog) (w:=w) (base:=base) D23.fn T);have c__law_numbers:=D24.call (Gz (P:=l.prog) (w:=w) (base:=base) D24.fn T);have c__law_draft:=D26.call (HM (P:=l.prog) (w:=w) (base:=base) D26.fn T c__law_mixed c__law_cells c__law_numbers);have c_number_texts:=D28.call (GE (P:=l.prog) (w:=w) (base:=base) D28.fn T c_number_text);have c_numbers_told:=D29.call (GG (P:=l.prog) (w:=w) (base:=base) D29.fn T c_number_of);have c_words_of:=D30.call (KI (P:=l.prog) (w:=w) (base:=base) D30.fn T);have c_tie_words:=D31.call (Jl (P:=l.prog) (w:=w) (base:=base) D31.fn T c_number_texts);have c_pick_word:=D32.call (JL (P:=l.prog) (w:=w) (base:=base) D32.fn T c_number_texts);have c_trodden_words:=D33.call (Ga (P:=l.prog) (w:=w) (base:=base) D33.fn T);have c_rising_words:=D34.call (GD (P:=l.prog) (w:=w) (base:=base) D34.fn T c_number_of c_is_among);have c_is_pick_word:=D35.call (GF (P:=l.prog) (w:=w) (base:=base) D35.fn T c_trodden_words c_rising_words);have c_words_behind:=D36.call (Gx (P:=l.prog) (w:=w) (base:=base) D36.fn T c_words_of);have c_read_count:=D37.call (Iq (P:=l.prog) (w:=w) (base:=base) D37.fn T c_words_behind c_number_of c_is_among);have c_draft_text:=D38.call (HV (P:=l.prog) (w:=w) (base:=base) D38.fn T c_number_text c_number_texts c_gathered c_tie_words c_pick_word);have c_read_tie:=D39.call (J5 (P:=l.prog) (w:=w) (base:=base) D39.fn T c_words_behind c_rising_words c_numbers_told);have c_read_items:(∃ fs,mg "read_items"=some (.ref fs)/\PySem.W.keepIn K (.ref fs)=true)/\∀ (base':Heap) (fl:Addr) (sL:Sp),LamV l.prog w K mg base' 6 fl sL->CallF l.prog w K mg base' "read_items" 9 ["words","number","most","fits"] (Bv K fl sL):=⟨⟨_,D40.at',D40.fn.kp⟩,λ base' fl sL lv=>by
      have c_is_whole:=D1.call (CQ (P:=l.prog) (w:=w) (base:=base') D1.fn T);have c_is_among:=D2.call (CG (P:=l.prog) (w:=w) (base:=base') D2.fn T c_is_whole);have c_number_of:=D3.call (Ce (P:=l.prog) (w:=w) (base:=base') D3.fn T c_is_among);have c_times_of:=D5.call (CP (P:=l.prog) (w:=w) (base:=base') D5.fn T c_number_of c_is_among);have c_can_stand:=D6.call (Dm (P:=l.prog) (w:=w) (base:=base') lv D6.fn T c_times_of);have c_taken:=D7.call (Hf (P:=l.prog) (w:=w) (base:=base') D7.fn T c_times_of);have c_spread:=D8.call (IV (P:=l.prog) (w:=w) (base:=base') lv D8.fn T c_can_stand c_taken);have c_read_items:=D40.call (HN (P:=l.prog) (w:=w) (base:=base') lv D40.fn T c_spread);exact c_read_items⟩
    have c_read_threading:=D41.call (FI (P:=l.prog) (w:=w) (base:=base) (TT1:=TT1) (TT2:=TT2) (TT3:=TT3) hcc1 hd1 (hbt _ (by simp)) D41.fn T c_words_behind c_read_items c_is_among c_number_of c_numbers_told);have c_read_treading:=D42.call (F4 (P:=l.prog) (w:=w) (base:=base) (TT1:=TT1) (TT2:=TT2) (TT3:=TT3) hcc2 hd2 (hbt _ (by simp)) D42.fn T c_words_behind c_read_items c_is_pick_word c_numbers_told c_trodden_words);have c_read_colours:=D43.call (GJ (P:=l.prog) (w:=w) (base:=base) D43.fn T c_words_behind c_read_items c_is_colour);have c_read_draft:=D44.call (HS (P:=l.prog) (w:=w) (base:=base) (TT1:=TT1) (TT2:=TT2) (TT3:=TT3) D44.fn T c_read_count c_read_threading c_read_tie c_read_treading c_read_colours m_Draft);have c__law_made:=D45.call (Jy (P:=l.prog) (w:=w) (base:=base) D45.fn T m_Draft);have c__law_pick:=D46.call (JQ (P:=l.prog) (w:=w) (base:=base) D46.fn T);have c__law_again:=D47.call (Ia (P:=l.prog) (w:=w) (base:=base) D47.fn T);have c__law_rows:=D49.call (JF (P:=l.prog) (w:=w) (base:=base) D49.fn T (D48.call (DM (P:=l.prog) (w:=w) (base:=base) D48 T c__law_mixed c__law_again 6)) c__law_mixed c__law_pick);have c__law_plain:=D50.call (HQ (P:=l.prog) (w:=w) (base:=base) (TT1:=TT1) (TT2:=TT2) (TT3:=TT3) hcc3 hd3 (hbt _ (by simp)) D50.fn T c_spread);have c__law_text_good:=D51.call (FS (P:=l.prog) (w:=w) (base:=base) (TT1:=TT1) (TT2:=TT2) (TT3:=TT3) D51.fn T c__law_plain c__law_rows c_gathered);have d_Draft_picks:Gn l.prog w K mg base C_Draft "picks" 1 ["self"] _:=⟨_,_,T.kd_Draft.cl,j52,G5 (P:=l.prog) (w:=w) (base:=base) D52.fn T,D52.bi⟩;exact Rw D53.fn T c__law_draft (D25.call (Eb (P:=l.prog) (w:=w) (base:=base) D25 T 4)) c__law_made c_draft_text c__law_text_good c_read_draft d_Draft_told (D0.call (FQ (P:=l.prog) (w:=w) (base:=base) D0 T 4)) (D27.call (Em (P:=l.prog) (w:=w) (base:=base) D27 T 4)) c__law_rows d_Draft_ends d_Draft_picks
    ⟩
theorem walk {l:PySem.W.OpenLaw} {q:Program} {loose:List Str} {XP:(Str->Option Value)->Heap->Prop} {YP:World->Heap->Prop} {d:DefRec} {K:Params->PySem.W.Frag} (hn:l.most=some 63) (hdf:d.params.defaults=[])
    (hY:∀ (w:World) (h:Heap),YP w h->(K w.params).In h)
    {ts:List Addr} (hnd:ts.Nodup)
    (hYt:∀ (w:World) (h:Heap),YP w h->∀ P∈ts,h.get? P=some (PySem.W.tabObj #[])) (hnt:∀ w:World,PySem.W.noTabs (K w.params)=true)
    (F:∀ (w:World) (mg:Str->Option Value) (fa:Addr) (h:Heap),(K w.params).In h->h.Ns mainGlobals mg->mg d.name=some (.ref fa)->
      ∃ fd:FuncData,(∀ (s:Shared) (u:Value),BindsTo s fd ⟨[u],[]⟩ [("_law_script",u)])/\(∀ h':Heap,(K w.params).In h'->∀ T∈ts,∃ c,PySem.W.CodeHd h' c T)/\∀ base:Heap,(K w.params).In base->base.Ns mainGlobals mg->(∀ T∈ts,base.BuiltinsAt mg T)->FnOk l.prog w (K w.params) mg base CX0 12 fa fd ["_law_script"] (Jq (K w.params) ts)):
    PySem.W.WalkO q loose XP YP l.row.toRowW d [] (λ f vs=>PySem.call f vs):=
  L2.walk_ofM (n:=63) (k:=12) (x:="_law_script") (CX:=λ _=>CX0) (sp:=λ w=>Jq (K w.params) ts) hn (by decide) hdf ⟨rfl,by decide,by decide⟩ hY hYt hnt F (λ _ _ a ns hl _ hT hS=>⟨a,ns,rfl,hS,hl,hT,hnd,λ _=>rfl⟩) λ _ _ _ _ _ z=>z
end K05
open PySem PySem.W PyProof.Rows
set_option maxRecDepth 100000 in
set_option maxHeartbeats 0 in
theorem PySem.Challenge.cw_loomwright_k05_drafts_read_back_holds : PySem.Challenge.rw_loomwright_k05_drafts_read_back.Holds := by
  w_on
  refine PySem.W.holds_law (by first | k_qdec | decide +kernel) λ said=> ?_;refine PySem.W.holds_open (q:=K05.view) (loose:=[]) (Xt:=K05.Xt) (XP:=PySem.W.XL K05.view []) (Yf:=(PySem.W.kmHook K05.frag K05.addrs K05.addrs_eq K05.tabs).obs) (Ya:=(PySem.W.kmHook K05.frag K05.addrs K05.addrs_eq K05.tabs).val) (YP:=(PySem.W.kmHook K05.frag K05.addrs K05.addrs_eq K05.tabs).says) (N:=K05.fuel) K05.left (PySem.W.kmHook K05.frag K05.addrs K05.addrs_eq K05.tabs).of (PySem.W.kmHook K05.frag K05.addrs K05.addrs_eq K05.tabs).keeps (λ s e=>PySem.W.xl_of s (Bool.and_eq_true_iff.mp e).1) PySem.W.XL.keeps (by rfl) (by rfl) (by rfl) (λ s e=>PySem.W.recFacts_of (Bool.and_eq_true_iff.mp e).2) (by rfl) (by first | assumption | decide +kernel) (by first | k_qdec | decide +kernel) ⟨rfl,rfl,rfl,rfl,rfl,by decide +kernel⟩ ?hw ?hc
  (case hw=>w_witness2)
  k_fill
  refine K05.walk (l:=PySem.Challenge.rw_loomwright_k05_drafts_read_back) rfl rfl (λ w h Y=>PySem.W.km_in_of Y) (by decide) (λ w h Y=>PySem.W.km_tabs_of Y) (λ w=>by kernel_rfl) ?F
  case F=>
    intro w mg fa h KX G hmg;refine' K05.all_mk (TT3:=414) (TT2:=327) (TT1:=306) (cc1:=310) (cc2:=329) (cc3:=418) KX G hmg ?T ?_ ?_ ?_ ?_ ?_ ?_ ?_ ?_ ?_ ?_ ?_ ?_ ?_ ?_ ?_ ?_ ?_ ?_ ?_ ?_ ?_ ?_ ?_ ?_ ?_ ?_ ?_ ?_ ?_ ?_ ?_ ?_ ?_ ?_ ?_ ?_ ?_ ?_ ?_ ?_ ?_ ?_ ?_ ?_ ?_ ?_ ?_ ?_ ?_ ?_ ?_ ?_ ?_ ?_ ?_ ?_ ?_ ?_ ?_ rfl ?_ ?_ ?_ ?_ ?_ ?_
    case T=>
      intros
      constructor
      all_goals try dsimp only
      all_goals try ((with_reducible refine' PySem.W.mg_of KX G ?_);k_is)
      all_goals first
        | ((with_reducible refine' L2.own_cons (PySem.W.mg_none_of KX G ?_) ?_) <;> (repeat' first | (with_reducible exact L2.own_nil) | (with_reducible refine' L2.own_cons (PySem.W.mg_none_of KX G ?_) ?_) | k_is))
        | ((with_reducible first | refine' L2.ci_mk (PySem.W.mg_of KX G ?_) | refine' L2.cs_mk (PySem.W.mg_of KX G ?_)) <;> first | k_is | skip)
        | with_reducible assumption
        | (refine' ⟨⟨?_,?_,?_,?_⟩,?_,?_,?_,?_⟩ <;> k_is)
        | ((with_reducible refine' L2.exc_mk ?_ ?_ ?_ ?_ ?_ ?_ ?_ ?_) <;> k_is)
        | (refine' ⟨?_,?_,?_⟩ <;> first | k_is | kernel_rfl)
        | (unfold L2.NoAttr;k_is)
        | k_is | k_exc | kts_exm | kit_is
    all_goals first
      | (refine' L2.def_mk (PySem.W.mg_of KX G ?_) (L2.fun_mk ?_ ?_ ?_) ?_ <;> first | k_is | exact L2.arg1 λ _=>rfl | exact L2.arg2 λ _ _=>rfl | exact L2.arg3 λ _ _ _=>rfl | exact L2.arg4 λ _ _ _ _=>rfl | exact L2.arg5 λ _ _ _ _ _=>rfl | exact L2.arg6 λ _ _ _ _ _ _=>rfl | exact L2.arg7 λ _ _ _ _ _ _ _=>rfl | exact L2.arg8 λ _ _ _ _ _ _ _ _=>rfl | exact L2.arg9 λ _ _ _ _ _ _ _ _ _=>rfl | skip)
      | (refine' L2.fnA_mk (L2.fun_mk ?_ ?_ ?_) ?_ <;> first | k_is | exact L2.arg1 λ _=>rfl | exact L2.arg2 λ _ _=>rfl | exact L2.arg3 λ _ _ _=>rfl | exact L2.arg4 λ _ _ _ _=>rfl | exact L2.arg5 λ _ _ _ _ _=>rfl | exact L2.arg6 λ _ _ _ _ _ _=>rfl | exact L2.arg7 λ _ _ _ _ _ _ _=>rfl | exact L2.arg8 λ _ _ _ _ _ _ _ _=>rfl | exact L2.arg9 λ _ _ _ _ _ _ _ _ _=>rfl | skip)
      | (refine' ⟨?_,?_,?_,?_⟩;all_goals first | k_is | kernel_rfl | skip)
      | (refine' ⟨?_,?_,?_⟩;all_goals first | k_is | kernel_rfl | skip)
      | k_is
      | exact λ s u=> .of_eq rfl
      | rfl | kernel_rfl | exact List.mem_cons_self | decide | skip
