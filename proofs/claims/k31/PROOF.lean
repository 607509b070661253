import PyProof.Rows.All
import Wide.All
import OpenK.AllK
import Wide.FinOn
import Lean
import PyProof.EqAt
import PyProof.EqKinds
import PyProof.TupleCall
import KE.KIntText
import PyProof.EnumFor
import PyProof.EnumMake
import PyProof.ZipIter
import PyProof.LayNew
import KE.KTurns
import PyProof.Rows.Range3
import KE.KRevSl
import KE.KDictList
import PyProof.Draws
import PyProof.Rows.RuleM_int
import PyProof.Rows.BitMore
import PyProof.NeKinds
import KE.KRevIter
import PyProof.JoinWalk
import KE.KNestM
import KE.KLam
import PySem.Challenge.RW_loomwright_k31_whole_faults_found
set_option Elab.async false
set_option linter.all false
set_option maxRecDepth 100000
set_option maxHeartbeats 4000000
namespace L2
open PySem
noncomputable def inClass (s:Stmt) (j:Nat):Stmt:=match s with
  | .ClassDef _ _ _ body _ _ _ _ _ _ _=>body.getD j (.Pass ⟨0,0,0,0⟩)
  | _=> .Pass ⟨0,0,0,0⟩
noncomputable def defArgs (s:Stmt):Arguments:=match s with
  | .FunctionDef _ a _ _ _ _ _ _ _ _=>a
  | _=>{ posonlyargs:=[],args:=[],vararg:=none,kwonlyargs:=[],kw_defaults:=[],kwarg:=none,defaults:=[] }
noncomputable def defBody (s:Stmt):List Stmt:=match s with
  | .FunctionDef _ _ b _ _ _ _ _ _ _=>b
  | _=>[]
noncomputable def defScope (s:Stmt):Scope:=match s with
  | .FunctionDef _ _ _ _ _ _ sc _ _ _=>sc
  | _=>{ kind:= .function,names:=[],isGenerator:=false,isCoroutine:=false }
end L2
namespace K31
open PySem
noncomputable def top (i:Nat):Stmt:=PySem.Challenge.pw_loomwright_k31_whole_faults_found.main.body.getD i (.Pass ⟨0,0,0,0⟩)
end K31
namespace HX
open PySem PySem.W PySem.Calls PyProof.Rows
noncomputable def topT (tb:String→Option Builtin) (p:Program) (w:World) (n₀:Nat) (ann:Option Value):Nat→SharedT→Thread→Option SharedT
  | 0,_,_=>none
  | n+1,s,t=>match through t with
    | true=>some s
    | false=>match stepOk n₀ ann t with
      | false=>none
      | true=>match stepT (denote tb) p w s t with
        | some (s',t')=>topT tb p w n₀ ann n s' t'
        | none=>none
theorem topT_of {tb:String→Option Builtin} {p:Program} {w:World} {n₀:Nat} {ann:Option Value}:∀ {n:Nat} {s s':SharedT} {t:Thread},topT tb p w n₀ ann n s t=some s'→topRun tb p w n₀ ann n s.abs t=some s'.abs
  | 0,_,_,_,h=>by cases h
  | n+1,s,s',t,h=>by
    unfold topT at h
    unfold topRun
    cases ht:through t with
    | true=>rw [ht] at h;cases h;rfl
    | false=>
      rw [ht] at h
      cases hk:stepOk n₀ ann t with
      | false=>rw [hk] at h;cases h
      | true=>
        rw [hk] at h
        cases hs:stepT (denote tb) p w s t with
        | none=>rw [hs] at h;cases h
        | some x=>
          obtain ⟨s2,t2⟩:=x
          rw [hs] at h
          dsimp only
          rw [stepT_spec hs]
          exact topT_of h
noncomputable def ofL:List Obj→Nat→BT→BT
  | [],_,t=>t
  | o::r,i,t=>ofL r (i+1) (t.ins i o)
noncomputable def bootT (P:Params):BT:=ofL (boot_heap P).objs.toList 0 .nil
noncomputable def fn0 (name qual:Str) (a:Arguments) (b:List Stmt) (sc:Scope):FuncData:=
  { name,qualname:=qual,params:=a,body:= .stmts b,scope:=sc,globals:=0,closure:=[],defaults:= .none,kwdefaults:= .none }
end HX
namespace HX
open PySem PySem.W PySem.Calls PyProof.Rows
theorem left_run {p q:Program} {loose:List Str} {Xt:Shared→Bool} {α:Type} {Yf:Shared→α} {Ya:World→α} {N:Nat} {g0:Bool}
    (e:opening p=plainProg p.main.scope.names) (hN:Nat.ble 600 N=true) (f:∀ s,fenceModules? p s=some s)
    (hb:∀ P:Params,(absHeap (bootT P) 11 {},boot_drawn,(boot_heap P).isNs mainGlobals,(boot_heap P).objs.size,(boot_heap P).nsMap mainGlobals "__annotations__")=(boot_heap P,boot_drawn,true,11,some (.ref 6)))
    (run:∀ (w:World) (os:OsState),∃ s:Shared,topRun treeTable p w 11 (some (.ref 6)) N (⟨bootT w.params,11,{},Array.mk [],boot_drawn,boot_toks,os⟩:SharedT).abs (topStub p)=some s∧((staticsOk (importedModules p.main.body) (boot_heap w.params) s.heap&&namesBound p s.heap&&gensDone s&&laidKept (boot_heap w.params) s.heap),openSeen q loose (importedModules p.main.body) Xt g0 s,Yf s)=(true,openGood q loose,Ya w)):LeftO p q loose Xt Yf Ya N g0:=fun w=>by
  obtain ⟨⟨h,gs,d,k,os⟩,e1,e'⟩:=Option.map_eq_some_iff.mp (boot_open (p:=p) (N:=N) e hN f w)
  obtain ⟨rfl,rfl,rfl,rfl⟩:h=boot_heap w.params∧gs=Array.mk []∧d=boot_drawn∧k=boot_toks:=by simpa using e'
  have hb':=hb w.params
  simp only [Prod.mk.injEq] at hb'
  obtain ⟨b1,_,b2,b3,b4⟩:=hb'
  obtain ⟨s,r,l⟩:=run w os
  obtain ⟨l1,l2,l3⟩:_∧_∧_:=by simpa only [Prod.mk.injEq] using l
  have b0:(⟨bootT w.params,11,{},Array.mk [],boot_drawn,boot_toks,os⟩:SharedT).abs=⟨boot_heap w.params,Array.mk [],boot_drawn,boot_toks,os⟩:=by
    show (⟨absHeap (bootT w.params) 11 {},_,_,_,_⟩:Shared)=_
    rw [b1]
  rw [b0] at r
  have t:topFrom treeTable p w N ⟨boot_heap w.params,Array.mk [],boot_drawn,boot_toks,os⟩=some s:=by
    unfold topFrom
    dsimp only
    rw [b2,b3,b4]
    show Option.bind (topRun treeTable p w 11 (some (.ref 6)) N ⟨boot_heap w.params,Array.mk [],boot_drawn,boot_toks,os⟩ (topStub p)) _=_
    rw [r]
    show (match staticsOk (importedModules p.main.body) (boot_heap w.params) s.heap&&namesBound p s.heap&&gensDone s&&laidKept (boot_heap w.params) s.heap with | true=>_ | false=>_)=_
    rw [l1]
  unfold openEnds
  rw [e1]
  show (topFrom treeTable p w N _).map _=_
  rw [t]
  exact congrArg some (Prod.ext l2 l3)
theorem three {α β γ:Type} {a a':α} {b b':β} {c c':γ} (h:(a,c)=(a',c')) (k:b=b'):(a,b,c)=(a',b',c'):=by
  cases h
  cases k
  rfl
theorem hb (P:Params):(absHeap (bootT P) 11 {},boot_drawn,(boot_heap P).isNs mainGlobals,(boot_heap P).objs.size,(boot_heap P).nsMap mainGlobals "__annotations__")=(boot_heap P,boot_drawn,true,11,some (.ref 6)):=by kernel_rfl
end HX
namespace K31
open PySem L2 PySem.W PySem.Calls PyProof.Rows
noncomputable abbrev Ob:=Params→Obj
noncomputable abbrev dE (P:Params) (s:Str) (t:Tok) (v:Value):DictEntry:=⟨PyData.keyHash P s, .str s t,v⟩
noncomputable abbrev dR (P:Params) (s:Str) (t:Tok) (a:Addr):DictEntry:=⟨PyData.keyHash P s, .str s t, .ref a⟩
noncomputable abbrev tu (xs:Array Value):Obj:=⟨.type "tuple",none, .seq xs 0, #[]⟩
noncomputable abbrev di (es:Array DictEntry) (n:Nat):Obj:=⟨.type "dict",none, .dict es n, #[]⟩
noncomputable abbrev f0 (n q:Str) (st:Stmt):FuncData:=HX.fn0 n q (defArgs st) (defBody st) (defScope st)
noncomputable abbrev fo (n q:Str) (st:Stmt) (m:Str) (t:Tok) (c:Addr):Obj:=⟨.type "function",none, .func (fnOf n q (defArgs st) (defBody st) (defScope st) .none .none .none (.str m t) none (.ref c) .none), #[]⟩
noncomputable abbrev co (n q:Str) (t:Tok) (l ac nl:Int) (a:Addr) (b:Bool) (r:Addr) (c d e:Value) (k:Int) (t4:Tok):Obj:=⟨.type "code",none, .fields #[.str n t, .str q (t+1), .str "/claim/cut.py" (t+2), .int l 0, .int ac 0, .int 0 0, .int 0 0, .int nl 0, .ref a, .bool b, .int 181 0, .ref r, .none,c,d,e, .int k 0, .int l 0, .str "/claim/cut.py" t4], #[]⟩
noncomputable def o3:Ob:=fun P=>di #[dE P "__name__" 165 (.str "law_loomwright_k31_whole_faults_found" 663),dE P "__doc__" 166 .none,dE P "__package__" 167 .none,dE P "__loader__" 168 (.builtin "__main__.__loader__#opaque"),dE P "__spec__" 169 .none,dR P "__annotations__" 170 6,dR P "__builtins__" 171 4,dE P "__file__" 173 (.str "/claim/cut.py" 172),dE P "__cached__" 174 .none,dR P "_wall" 193 21,dE P "MOST_SHAFTS" 195 (.int 16 194),dE P "MOST_TREADLES" 197 (.int 16 196),dE P "MOST_ENDS" 199 (.int 60 198),dE P "MOST_PICKS" 201 (.int 60 200),dR P "LoomError" 221 31,dR P "BadDraft" 237 44,dR P "BadCloth" 253 56,dE P "COLOURS" 257 (.str "abcdefghijklmnopqrstuvwxyz" 256),dR P "is_whole" 264 65,dR P "is_among" 273 72,dR P "is_colour" 280 79,dR P "need" 290 86,dR P "is_list" 299 93,dR P "is_rising" 309 100,dR P "are_rising" 315 105,dR P "are_colours" 321 110,dR P "need_draft" 327 115,dR P "Draft" 380 149,dR P "shafts_but" 386 158,dR P "bit_of" 395 165,dR P "mask_of" 404 172,dR P "mask_to" 411 179,dR P "has_number" 419 186,dR P "numbers_of" 425 191,dR P "union_of" 434 198,dR P "need_cloth" 442 203,dR P "Cloth" 519 262,dR P "lift_by" 527 271,dR P "ends_through" 533 276,dR P "shaft_ends" 539 281,dR P "row_by" 545 286,dE P "UP" 549 (.str "up" 548),dE P "DOWN" 551 (.str "down" 550),dE P "BROKEN" 553 (.str "broken" 552),dE P "LOOSE" 555 (.str "loose" 554),dE P "TIED" 557 (.str "tied" 556),dE P "DRAWN" 559 (.str "drawn" 558),dR P "threading_with" 568 293,dR P "ties_with" 574 298,dR P "carried_with" 583 305,dR P "Gear" 624 329,dR P "lone_faults" 632 338,dR P "shaft_faults" 638 343,dR P "all_faults" 644 348,dR P "weaves_with" 656 355,dR P "found_faults" 662 360,dR P "_law_mixed" 672 367,dR P "_law_cells" 678 372,dR P "_law_numbers" 684 377,dR P "_law_draft" 690 382,dR P "_law_made" 697 389,dR P "_law_whole" 703 394,dR P "_law_all_faults" 709 399,dR P "_law_lifted" 722 406,dR P "_law_row" 735 413,dR P "_law_rows" 741 418,dR P "law" 747 423] 67
noncomputable def o15:Ob:=fun P=>tu #[]
noncomputable def o17:Ob:=fun P=>tu #[(.str "k" 190)]
noncomputable def o18:Ob:=fun P=>tu #[]
noncomputable def o20:Ob:=fun P=>co "_wall" "_wall" 187 1 1 3 15 true 16 (.ref 17) (.ref 18) (.ref 19) 191 192
noncomputable def o21:Ob:=fun P=>fo "_wall" "_wall" (top 0) "__main__" 164 20
noncomputable def o22:Ob:=fun P=>tu #[(.type "ValueError")]
noncomputable def o29:Ob:=fun P=>tu #[]
noncomputable def o30:Ob:=fun P=>di #[dE P "__module__" 211 (.str "loomwright.errors" 202),dE P "__firstlineno__" 215 (.int 9 214),dR P "__static_attributes__" 216 29,dR P "__weakref__" 218 32,dE P "__doc__" 219 .none] 3
noncomputable def o31:Ob:=fun P=>⟨(.type "type"),none,(.cls ⟨"LoomError",[(.type "ValueError")],[(.ref 31),(.type "ValueError"),(.type "Exception"),(.type "BaseException"),(.type "object")],30,"LoomError",true,[],[(.ref 44),(.ref 56)],false,none,false⟩), #[(some (.ref 22)),none,(some (.str "LoomError" 204)),(some (.str "LoomError" 212)),(some (.builtin "ValueError.__new__")),(some (.bool true))]⟩
noncomputable def o32:Ob:=fun P=>⟨(.type "getset_descriptor"),none,(.fields #[(.str "__weakref__" 217),(.ref 31),(.builtin "ExceptionGroup.__weakref__"), .none]), #[]⟩
noncomputable def o35:Ob:=fun P=>tu #[(.ref 31)]
noncomputable def o42:Ob:=fun P=>tu #[]
noncomputable def o43:Ob:=fun P=>di #[dE P "__module__" 229 (.str "loomwright.errors" 202),dE P "__firstlineno__" 233 (.int 11 232),dR P "__static_attributes__" 234 42,dE P "__doc__" 235 .none] 2
noncomputable def o44:Ob:=fun P=>⟨(.type "type"),none,(.cls ⟨"BadDraft",[(.ref 31)],[(.ref 44),(.ref 31),(.type "ValueError"),(.type "Exception"),(.type "BaseException"),(.type "object")],43,"BadDraft",true,[],[],false,none,false⟩), #[(some (.ref 35)),none,(some (.str "BadDraft" 222)),(some (.str "BadDraft" 230)),(some (.builtin "ValueError.__new__")),(some (.bool true))]⟩
noncomputable def o47:Ob:=fun P=>tu #[(.ref 31)]
noncomputable def o54:Ob:=fun P=>tu #[]
noncomputable def o55:Ob:=fun P=>di #[dE P "__module__" 245 (.str "loomwright.errors" 202),dE P "__firstlineno__" 249 (.int 13 248),dR P "__static_attributes__" 250 54,dE P "__doc__" 251 .none] 2
noncomputable def o56:Ob:=fun P=>⟨(.type "type"),none,(.cls ⟨"BadCloth",[(.ref 31)],[(.ref 56),(.ref 31),(.type "ValueError"),(.type "Exception"),(.type "BaseException"),(.type "object")],55,"BadCloth",true,[],[],false,none,false⟩), #[(some (.ref 47)),none,(some (.str "BadCloth" 238)),(some (.str "BadCloth" 246)),(some (.builtin "ValueError.__new__")),(some (.bool true))]⟩
noncomputable def o59:Ob:=fun P=>tu #[]
noncomputable def o61:Ob:=fun P=>tu #[(.str "thing" 261)]
noncomputable def o62:Ob:=fun P=>tu #[]
noncomputable def o64:Ob:=fun P=>co "is_whole" "is_whole" 258 17 1 3 59 true 60 (.ref 61) (.ref 62) (.ref 63) 262 263
noncomputable def o65:Ob:=fun P=>fo "is_whole" "is_whole" (top 11) "loomwright.words" 254 64
noncomputable def o66:Ob:=fun P=>tu #[]
noncomputable def o68:Ob:=fun P=>tu #[(.str "thing" 268),(.str "least" 269),(.str "most" 270)]
noncomputable def o69:Ob:=fun P=>tu #[]
noncomputable def o71:Ob:=fun P=>co "is_among" "is_among" 265 19 3 3 66 true 67 (.ref 68) (.ref 69) (.ref 70) 271 272
noncomputable def o72:Ob:=fun P=>fo "is_among" "is_among" (top 12) "loomwright.words" 254 71
noncomputable def o73:Ob:=fun P=>tu #[]
noncomputable def o75:Ob:=fun P=>tu #[(.str "thing" 277)]
noncomputable def o76:Ob:=fun P=>tu #[]
noncomputable def o78:Ob:=fun P=>co "is_colour" "is_colour" 274 21 1 3 73 true 74 (.ref 75) (.ref 76) (.ref 77) 278 279
noncomputable def o79:Ob:=fun P=>fo "is_colour" "is_colour" (top 13) "loomwright.words" 254 78
noncomputable def o80:Ob:=fun P=>tu #[]
noncomputable def o82:Ob:=fun P=>tu #[(.str "holds" 286),(.str "words" 287)]
noncomputable def o83:Ob:=fun P=>tu #[]
noncomputable def o85:Ob:=fun P=>co "need" "need" 283 24 2 3 80 true 81 (.ref 82) (.ref 83) (.ref 84) 288 289
noncomputable def o86:Ob:=fun P=>fo "need" "need" (top 15) "loomwright.draft" 281 85
noncomputable def o87:Ob:=fun P=>tu #[]
noncomputable def o89:Ob:=fun P=>tu #[(.str "thing" 294),(.str "least" 295),(.str "most" 296)]
noncomputable def o90:Ob:=fun P=>tu #[]
noncomputable def o92:Ob:=fun P=>co "is_list" "is_list" 291 27 3 3 87 true 88 (.ref 89) (.ref 90) (.ref 91) 297 298
noncomputable def o93:Ob:=fun P=>fo "is_list" "is_list" (top 16) "loomwright.draft" 281 92
noncomputable def o94:Ob:=fun P=>tu #[]
noncomputable def o96:Ob:=fun P=>tu #[(.str "thing" 303),(.str "most" 304),(.str "last" 305),(.str "number" 306)]
noncomputable def o97:Ob:=fun P=>tu #[]
noncomputable def o99:Ob:=fun P=>co "is_rising" "is_rising" 300 29 2 3 94 true 95 (.ref 96) (.ref 97) (.ref 98) 307 308
noncomputable def o100:Ob:=fun P=>fo "is_rising" "is_rising" (top 17) "loomwright.draft" 281 99
noncomputable def o101:Ob:=fun P=>tu #[]
noncomputable def o104:Ob:=fun P=>co "are_rising" "are_rising" 310 38 2 3 101 true 102 .none .none (.ref 103) 313 314
noncomputable def o105:Ob:=fun P=>fo "are_rising" "are_rising" (top 18) "loomwright.draft" 281 104
noncomputable def o106:Ob:=fun P=>tu #[]
noncomputable def o109:Ob:=fun P=>co "are_colours" "are_colours" 316 40 2 3 106 true 107 .none .none (.ref 108) 319 320
noncomputable def o110:Ob:=fun P=>fo "are_colours" "are_colours" (top 19) "loomwright.draft" 281 109
noncomputable def o111:Ob:=fun P=>tu #[]
noncomputable def o114:Ob:=fun P=>co "need_draft" "need_draft" 322 42 7 3 111 true 112 .none .none (.ref 113) 325 326
noncomputable def o115:Ob:=fun P=>fo "need_draft" "need_draft" (top 20) "loomwright.draft" 281 114
noncomputable def o123:Ob:=fun P=>tu #[]
noncomputable def o126:Ob:=fun P=>co "__init__" "Draft.__init__" 340 55 8 3 123 true 124 .none .none (.ref 125) 343 344
noncomputable def o127:Ob:=fun P=>fo "__init__" "Draft.__init__" (inClass (top 21) 0) "loomwright.draft" 281 126
noncomputable def o128:Ob:=fun P=>tu #[]
noncomputable def o131:Ob:=fun P=>co "told" "Draft.told" 346 65 1 3 128 true 129 .none .none (.ref 130) 349 350
noncomputable def o132:Ob:=fun P=>fo "told" "Draft.told" (inClass (top 21) 1) "loomwright.draft" 281 131
noncomputable def o133:Ob:=fun P=>tu #[]
noncomputable def o135:Ob:=fun P=>tu #[(.str "self" 355)]
noncomputable def o136:Ob:=fun P=>tu #[]
noncomputable def o138:Ob:=fun P=>co "ends" "Draft.ends" 352 68 1 3 133 true 134 (.ref 135) (.ref 136) (.ref 137) 356 357
noncomputable def o139:Ob:=fun P=>fo "ends" "Draft.ends" (inClass (top 21) 2) "loomwright.draft" 281 138
noncomputable def o140:Ob:=fun P=>tu #[]
noncomputable def o142:Ob:=fun P=>tu #[(.str "self" 362)]
noncomputable def o143:Ob:=fun P=>tu #[]
noncomputable def o145:Ob:=fun P=>co "picks" "Draft.picks" 359 71 1 3 140 true 141 (.ref 142) (.ref 143) (.ref 144) 363 364
noncomputable def o146:Ob:=fun P=>fo "picks" "Draft.picks" (inClass (top 21) 3) "loomwright.draft" 281 145
noncomputable def o147:Ob:=fun P=>tu #[(.str "shafts" 366),(.str "threading" 367),(.str "ties" 368),(.str "treading" 369),(.str "treadles" 370),(.str "warp" 371),(.str "weft" 372)]
noncomputable def o148:Ob:=fun P=>di #[dE P "__module__" 335 (.str "loomwright.draft" 281),dE P "__firstlineno__" 339 (.int 53 338),dR P "__init__" 345 127,dR P "told" 351 132,dR P "ends" 358 139,dR P "picks" 365 146,dR P "__static_attributes__" 373 147,dR P "__dict__" 375 150,dR P "__weakref__" 377 151,dE P "__doc__" 378 .none] 4
noncomputable def o149:Ob:=fun P=>⟨(.type "type"),none,(.cls ⟨"Draft",[(.type "object")],[(.ref 149),(.type "object")],148,"Draft",true,[],[],false,none,false⟩), #[none,none,(some (.str "Draft" 328)),(some (.str "Draft" 336)),(some (.builtin "object.__new__")),(some (.bool true))]⟩
noncomputable def o150:Ob:=fun P=>⟨(.type "getset_descriptor"),none,(.fields #[(.str "__dict__" 374),(.ref 149),(.builtin "function.__dict__"),(.builtin "function.__dict__#set")]), #[]⟩
noncomputable def o151:Ob:=fun P=>⟨(.type "getset_descriptor"),none,(.fields #[(.str "__weakref__" 376),(.ref 149),(.builtin "ExceptionGroup.__weakref__"), .none]), #[]⟩
noncomputable def o154:Ob:=fun P=>tu #[]
noncomputable def o157:Ob:=fun P=>co "shafts_but" "shafts_but" 381 73 3 3 154 true 155 .none .none (.ref 156) 384 385
noncomputable def o158:Ob:=fun P=>fo "shafts_but" "shafts_but" (top 22) "loomwright.draft" 281 157
noncomputable def o159:Ob:=fun P=>tu #[]
noncomputable def o161:Ob:=fun P=>tu #[(.str "number" 392)]
noncomputable def o162:Ob:=fun P=>tu #[]
noncomputable def o164:Ob:=fun P=>co "bit_of" "bit_of" 389 76 1 3 159 true 160 (.ref 161) (.ref 162) (.ref 163) 393 394
noncomputable def o165:Ob:=fun P=>fo "bit_of" "bit_of" (top 24) "loomwright.masks" 387 164
noncomputable def o166:Ob:=fun P=>tu #[]
noncomputable def o168:Ob:=fun P=>tu #[(.str "numbers" 399),(.str "mask" 400),(.str "number" 401)]
noncomputable def o169:Ob:=fun P=>tu #[]
noncomputable def o171:Ob:=fun P=>co "mask_of" "mask_of" 396 78 1 3 166 true 167 (.ref 168) (.ref 169) (.ref 170) 402 403
noncomputable def o172:Ob:=fun P=>fo "mask_of" "mask_of" (top 25) "loomwright.masks" 387 171
noncomputable def o173:Ob:=fun P=>tu #[]
noncomputable def o175:Ob:=fun P=>tu #[(.str "most" 408)]
noncomputable def o176:Ob:=fun P=>tu #[]
noncomputable def o178:Ob:=fun P=>co "mask_to" "mask_to" 405 83 1 3 173 true 174 (.ref 175) (.ref 176) (.ref 177) 409 410
noncomputable def o179:Ob:=fun P=>fo "mask_to" "mask_to" (top 26) "loomwright.masks" 387 178
noncomputable def o180:Ob:=fun P=>tu #[]
noncomputable def o182:Ob:=fun P=>tu #[(.str "mask" 415),(.str "number" 416)]
noncomputable def o183:Ob:=fun P=>tu #[]
noncomputable def o185:Ob:=fun P=>co "has_number" "has_number" 412 85 2 3 180 true 181 (.ref 182) (.ref 183) (.ref 184) 417 418
noncomputable def o186:Ob:=fun P=>fo "has_number" "has_number" (top 27) "loomwright.masks" 387 185
noncomputable def o187:Ob:=fun P=>tu #[]
noncomputable def o190:Ob:=fun P=>co "numbers_of" "numbers_of" 420 87 1 3 187 true 188 .none .none (.ref 189) 423 424
noncomputable def o191:Ob:=fun P=>fo "numbers_of" "numbers_of" (top 28) "loomwright.masks" 387 190
noncomputable def o192:Ob:=fun P=>tu #[]
noncomputable def o194:Ob:=fun P=>tu #[(.str "masks" 429),(.str "union" 430),(.str "mask" 431)]
noncomputable def o195:Ob:=fun P=>tu #[]
noncomputable def o197:Ob:=fun P=>co "union_of" "union_of" 426 89 1 3 192 true 193 (.ref 194) (.ref 195) (.ref 196) 432 433
noncomputable def o198:Ob:=fun P=>fo "union_of" "union_of" (top 29) "loomwright.masks" 387 197
noncomputable def o199:Ob:=fun P=>tu #[]
noncomputable def o202:Ob:=fun P=>co "need_cloth" "need_cloth" 437 95 2 3 199 true 200 .none .none (.ref 201) 440 441
noncomputable def o203:Ob:=fun P=>fo "need_cloth" "need_cloth" (top 31) "loomwright.cloth" 435 202
noncomputable def o211:Ob:=fun P=>tu #[]
noncomputable def o213:Ob:=fun P=>tu #[(.str "self" 458),(.str "ends" 459),(.str "rows" 460)]
noncomputable def o214:Ob:=fun P=>tu #[]
noncomputable def o216:Ob:=fun P=>co "__init__" "Cloth.__init__" 455 104 3 3 211 true 212 (.ref 213) (.ref 214) (.ref 215) 461 462
noncomputable def o217:Ob:=fun P=>fo "__init__" "Cloth.__init__" (inClass (top 32) 0) "loomwright.cloth" 435 216
noncomputable def o218:Ob:=fun P=>tu #[]
noncomputable def o220:Ob:=fun P=>tu #[(.str "self" 467)]
noncomputable def o221:Ob:=fun P=>tu #[]
noncomputable def o223:Ob:=fun P=>co "told" "Cloth.told" 464 109 1 3 218 true 219 (.ref 220) (.ref 221) (.ref 222) 468 469
noncomputable def o224:Ob:=fun P=>fo "told" "Cloth.told" (inClass (top 32) 1) "loomwright.cloth" 435 223
noncomputable def o225:Ob:=fun P=>tu #[]
noncomputable def o227:Ob:=fun P=>tu #[(.str "self" 474)]
noncomputable def o228:Ob:=fun P=>tu #[]
noncomputable def o230:Ob:=fun P=>co "ends" "Cloth.ends" 471 112 1 3 225 true 226 (.ref 227) (.ref 228) (.ref 229) 475 476
noncomputable def o231:Ob:=fun P=>fo "ends" "Cloth.ends" (inClass (top 32) 2) "loomwright.cloth" 435 230
noncomputable def o232:Ob:=fun P=>tu #[]
noncomputable def o234:Ob:=fun P=>tu #[(.str "self" 481)]
noncomputable def o235:Ob:=fun P=>tu #[]
noncomputable def o237:Ob:=fun P=>co "picks" "Cloth.picks" 478 115 1 3 232 true 233 (.ref 234) (.ref 235) (.ref 236) 482 483
noncomputable def o238:Ob:=fun P=>fo "picks" "Cloth.picks" (inClass (top 32) 3) "loomwright.cloth" 435 237
noncomputable def o239:Ob:=fun P=>tu #[]
noncomputable def o241:Ob:=fun P=>tu #[(.str "self" 488),(.str "pick" 489)]
noncomputable def o242:Ob:=fun P=>tu #[]
noncomputable def o244:Ob:=fun P=>co "row_at" "Cloth.row_at" 485 118 2 3 239 true 240 (.ref 241) (.ref 242) (.ref 243) 490 491
noncomputable def o245:Ob:=fun P=>fo "row_at" "Cloth.row_at" (inClass (top 32) 4) "loomwright.cloth" 435 244
noncomputable def o246:Ob:=fun P=>tu #[]
noncomputable def o248:Ob:=fun P=>tu #[(.str "self" 496),(.str "end" 497)]
noncomputable def o249:Ob:=fun P=>tu #[]
noncomputable def o251:Ob:=fun P=>co "column_at" "Cloth.column_at" 493 121 2 3 246 true 247 (.ref 248) (.ref 249) (.ref 250) 498 499
noncomputable def o252:Ob:=fun P=>fo "column_at" "Cloth.column_at" (inClass (top 32) 5) "loomwright.cloth" 435 251
noncomputable def o253:Ob:=fun P=>tu #[]
noncomputable def o255:Ob:=fun P=>tu #[(.str "self" 504),(.str "end" 505),(.str "pick" 506)]
noncomputable def o256:Ob:=fun P=>tu #[]
noncomputable def o258:Ob:=fun P=>co "is_up" "Cloth.is_up" 501 124 3 3 253 true 254 (.ref 255) (.ref 256) (.ref 257) 507 508
noncomputable def o259:Ob:=fun P=>fo "is_up" "Cloth.is_up" (inClass (top 32) 6) "loomwright.cloth" 435 258
noncomputable def o260:Ob:=fun P=>tu #[(.str "rows" 510),(.str "width" 511)]
noncomputable def o261:Ob:=fun P=>di #[dE P "__module__" 450 (.str "loomwright.cloth" 435),dE P "__firstlineno__" 454 (.int 102 453),dR P "__init__" 463 217,dR P "told" 470 224,dR P "ends" 477 231,dR P "picks" 484 238,dR P "row_at" 492 245,dR P "column_at" 500 252,dR P "is_up" 509 259,dR P "__static_attributes__" 512 260,dR P "__dict__" 514 263,dR P "__weakref__" 516 264,dE P "__doc__" 517 .none] 4
noncomputable def o262:Ob:=fun P=>⟨(.type "type"),none,(.cls ⟨"Cloth",[(.type "object")],[(.ref 262),(.type "object")],261,"Cloth",true,[],[],false,none,false⟩), #[none,none,(some (.str "Cloth" 443)),(some (.str "Cloth" 451)),(some (.builtin "object.__new__")),(some (.bool true))]⟩
noncomputable def o263:Ob:=fun P=>⟨(.type "getset_descriptor"),none,(.fields #[(.str "__dict__" 513),(.ref 262),(.builtin "function.__dict__"),(.builtin "function.__dict__#set")]), #[]⟩
noncomputable def o264:Ob:=fun P=>⟨(.type "getset_descriptor"),none,(.fields #[(.str "__weakref__" 515),(.ref 262),(.builtin "ExceptionGroup.__weakref__"), .none]), #[]⟩
noncomputable def o267:Ob:=fun P=>tu #[]
noncomputable def o270:Ob:=fun P=>co "lift_by" "lift_by" 522 127 2 3 267 true 268 .none .none (.ref 269) 525 526
noncomputable def o271:Ob:=fun P=>fo "lift_by" "lift_by" (top 34) "loomwright.weaving" 520 270
noncomputable def o272:Ob:=fun P=>tu #[]
noncomputable def o275:Ob:=fun P=>co "ends_through" "ends_through" 528 129 2 3 272 true 273 .none .none (.ref 274) 531 532
noncomputable def o276:Ob:=fun P=>fo "ends_through" "ends_through" (top 35) "loomwright.weaving" 520 275
noncomputable def o277:Ob:=fun P=>tu #[]
noncomputable def o280:Ob:=fun P=>co "shaft_ends" "shaft_ends" 534 131 2 3 277 true 278 .none .none (.ref 279) 537 538
noncomputable def o281:Ob:=fun P=>fo "shaft_ends" "shaft_ends" (top 36) "loomwright.weaving" 520 280
noncomputable def o282:Ob:=fun P=>tu #[]
noncomputable def o285:Ob:=fun P=>co "row_by" "row_by" 540 133 2 3 282 true 283 .none .none (.ref 284) 543 544
noncomputable def o286:Ob:=fun P=>fo "row_by" "row_by" (top 37) "loomwright.weaving" 520 285
noncomputable def o287:Ob:=fun P=>tu #[]
noncomputable def o289:Ob:=fun P=>tu #[(.str "draft" 563),(.str "fault" 564),(.str "threading" 565)]
noncomputable def o290:Ob:=fun P=>tu #[]
noncomputable def o292:Ob:=fun P=>co "threading_with" "threading_with" 560 142 2 3 287 true 288 (.ref 289) (.ref 290) (.ref 291) 566 567
noncomputable def o293:Ob:=fun P=>fo "threading_with" "threading_with" (top 45) "loomwright.gear" 546 292
noncomputable def o294:Ob:=fun P=>tu #[]
noncomputable def o297:Ob:=fun P=>co "ties_with" "ties_with" 569 149 2 3 294 true 295 .none .none (.ref 296) 572 573
noncomputable def o298:Ob:=fun P=>fo "ties_with" "ties_with" (top 46) "loomwright.gear" 546 297
noncomputable def o299:Ob:=fun P=>tu #[]
noncomputable def o301:Ob:=fun P=>tu #[(.str "draft" 578),(.str "fault" 579),(.str "carried" 580)]
noncomputable def o302:Ob:=fun P=>tu #[]
noncomputable def o304:Ob:=fun P=>co "carried_with" "carried_with" 575 154 2 3 299 true 300 (.ref 301) (.ref 302) (.ref 303) 581 582
noncomputable def o305:Ob:=fun P=>fo "carried_with" "carried_with" (top 47) "loomwright.gear" 546 304
noncomputable def o313:Ob:=fun P=>tu #[]
noncomputable def o315:Ob:=fun P=>tu #[(.str "self" 599),(.str "draft" 600),(.str "fault" 601),(.str "told" 602)]
noncomputable def o316:Ob:=fun P=>tu #[]
noncomputable def o318:Ob:=fun P=>co "__init__" "Gear.__init__" 596 161 3 3 313 true 314 (.ref 315) (.ref 316) (.ref 317) 603 604
noncomputable def o319:Ob:=fun P=>fo "__init__" "Gear.__init__" (inClass (top 48) 0) "loomwright.gear" 546 318
noncomputable def o320:Ob:=fun P=>tu #[]
noncomputable def o322:Ob:=fun P=>tu #[(.str "self" 609),(.str "treadles" 610)]
noncomputable def o323:Ob:=fun P=>tu #[]
noncomputable def o325:Ob:=fun P=>co "row_of" "Gear.row_of" 606 167 2 3 320 true 321 (.ref 322) (.ref 323) (.ref 324) 611 612
noncomputable def o326:Ob:=fun P=>fo "row_of" "Gear.row_of" (inClass (top 48) 1) "loomwright.gear" 546 325
noncomputable def o327:Ob:=fun P=>tu #[(.str "always_up" 614),(.str "carried" 615),(.str "tied" 616)]
noncomputable def o328:Ob:=fun P=>di #[dE P "__module__" 591 (.str "loomwright.gear" 546),dE P "__firstlineno__" 595 (.int 159 594),dR P "__init__" 605 319,dR P "row_of" 613 326,dR P "__static_attributes__" 617 327,dR P "__dict__" 619 330,dR P "__weakref__" 621 331,dE P "__doc__" 622 .none] 4
noncomputable def o329:Ob:=fun P=>⟨(.type "type"),none,(.cls ⟨"Gear",[(.type "object")],[(.ref 329),(.type "object")],328,"Gear",true,[],[],false,none,false⟩), #[none,none,(some (.str "Gear" 584)),(some (.str "Gear" 592)),(some (.builtin "object.__new__")),(some (.bool true))]⟩
noncomputable def o330:Ob:=fun P=>⟨(.type "getset_descriptor"),none,(.fields #[(.str "__dict__" 618),(.ref 329),(.builtin "function.__dict__"),(.builtin "function.__dict__#set")]), #[]⟩
noncomputable def o331:Ob:=fun P=>⟨(.type "getset_descriptor"),none,(.fields #[(.str "__weakref__" 620),(.ref 329),(.builtin "ExceptionGroup.__weakref__"), .none]), #[]⟩
noncomputable def o334:Ob:=fun P=>tu #[]
noncomputable def o337:Ob:=fun P=>co "lone_faults" "lone_faults" 627 170 2 3 334 true 335 .none .none (.ref 336) 630 631
noncomputable def o338:Ob:=fun P=>fo "lone_faults" "lone_faults" (top 50) "loomwright.faults" 625 337
noncomputable def o339:Ob:=fun P=>tu #[]
noncomputable def o342:Ob:=fun P=>co "shaft_faults" "shaft_faults" 633 172 2 3 339 true 340 .none .none (.ref 341) 636 637
noncomputable def o343:Ob:=fun P=>fo "shaft_faults" "shaft_faults" (top 51) "loomwright.faults" 625 342
noncomputable def o344:Ob:=fun P=>tu #[]
noncomputable def o347:Ob:=fun P=>co "all_faults" "all_faults" 639 177 1 3 344 true 345 .none .none (.ref 346) 642 643
noncomputable def o348:Ob:=fun P=>fo "all_faults" "all_faults" (top 52) "loomwright.faults" 625 347
noncomputable def o349:Ob:=fun P=>tu #[]
noncomputable def o351:Ob:=fun P=>tu #[(.str "draft" 648),(.str "fault" 649),(.str "cloth" 650),(.str "gear" 651),(.str "treadles" 652),(.str "row" 653)]
noncomputable def o352:Ob:=fun P=>tu #[]
noncomputable def o354:Ob:=fun P=>co "weaves_with" "weaves_with" 645 184 3 3 349 true 350 (.ref 351) (.ref 352) (.ref 353) 654 655
noncomputable def o355:Ob:=fun P=>fo "weaves_with" "weaves_with" (top 53) "loomwright.faults" 625 354
noncomputable def o356:Ob:=fun P=>tu #[]
noncomputable def o359:Ob:=fun P=>co "found_faults" "found_faults" 657 190 2 3 356 true 357 .none .none (.ref 358) 660 661
noncomputable def o360:Ob:=fun P=>fo "found_faults" "found_faults" (top 54) "loomwright.faults" 625 359
noncomputable def o361:Ob:=fun P=>tu #[]
noncomputable def o363:Ob:=fun P=>tu #[(.str "_law_cell" 668),(.str "_law_k" 669)]
noncomputable def o364:Ob:=fun P=>tu #[]
noncomputable def o366:Ob:=fun P=>co "_law_mixed" "_law_mixed" 665 195 2 3 361 true 362 (.ref 363) (.ref 364) (.ref 365) 670 671
noncomputable def o367:Ob:=fun P=>fo "_law_mixed" "_law_mixed" (top 56) "law_loomwright_k31_whole_faults_found" 663 366
noncomputable def o368:Ob:=fun P=>tu #[]
noncomputable def o371:Ob:=fun P=>co "_law_cells" "_law_cells" 673 198 2 3 368 true 369 .none .none (.ref 370) 676 677
noncomputable def o372:Ob:=fun P=>fo "_law_cells" "_law_cells" (top 57) "law_loomwright_k31_whole_faults_found" 663 371
noncomputable def o373:Ob:=fun P=>tu #[]
noncomputable def o376:Ob:=fun P=>co "_law_numbers" "_law_numbers" 679 201 2 3 373 true 374 .none .none (.ref 375) 682 683
noncomputable def o377:Ob:=fun P=>fo "_law_numbers" "_law_numbers" (top 58) "law_loomwright_k31_whole_faults_found" 663 376
noncomputable def o378:Ob:=fun P=>tu #[]
noncomputable def o381:Ob:=fun P=>co "_law_draft" "_law_draft" 685 203 2 3 378 true 379 .none .none (.ref 380) 688 689
noncomputable def o382:Ob:=fun P=>fo "_law_draft" "_law_draft" (top 59) "law_loomwright_k31_whole_faults_found" 663 381
noncomputable def o383:Ob:=fun P=>tu #[]
noncomputable def o385:Ob:=fun P=>tu #[(.str "_law_told" 694)]
noncomputable def o386:Ob:=fun P=>tu #[]
noncomputable def o388:Ob:=fun P=>co "_law_made" "_law_made" 691 217 1 3 383 true 384 (.ref 385) (.ref 386) (.ref 387) 695 696
noncomputable def o389:Ob:=fun P=>fo "_law_made" "_law_made" (top 60) "law_loomwright_k31_whole_faults_found" 663 388
noncomputable def o390:Ob:=fun P=>tu #[]
noncomputable def o393:Ob:=fun P=>co "_law_whole" "_law_whole" 698 219 1 3 390 true 391 .none .none (.ref 392) 701 702
noncomputable def o394:Ob:=fun P=>fo "_law_whole" "_law_whole" (top 61) "law_loomwright_k31_whole_faults_found" 663 393
noncomputable def o395:Ob:=fun P=>tu #[]
noncomputable def o398:Ob:=fun P=>co "_law_all_faults" "_law_all_faults" 704 221 1 3 395 true 396 .none .none (.ref 397) 707 708
noncomputable def o399:Ob:=fun P=>fo "_law_all_faults" "_law_all_faults" (top 62) "law_loomwright_k31_whole_faults_found" 663 398
noncomputable def o400:Ob:=fun P=>tu #[]
noncomputable def o402:Ob:=fun P=>tu #[(.str "_law_told" 713),(.str "_law_fault" 714),(.str "_law_pick" 715),(.str "_law_found" 716),(.str "_law_treadle" 717),(.str "_law_shaft" 718),(.str "_law_is_tied" 719)]
noncomputable def o403:Ob:=fun P=>tu #[]
noncomputable def o405:Ob:=fun P=>co "_law_lifted" "_law_lifted" 710 231 3 3 400 true 401 (.ref 402) (.ref 403) (.ref 404) 720 721
noncomputable def o406:Ob:=fun P=>fo "_law_lifted" "_law_lifted" (top 63) "law_loomwright_k31_whole_faults_found" 663 405
noncomputable def o407:Ob:=fun P=>tu #[]
noncomputable def o409:Ob:=fun P=>tu #[(.str "_law_told" 726),(.str "_law_fault" 727),(.str "_law_pick" 728),(.str "_law_lifted_here" 729),(.str "_law_row_here" 730),(.str "_law_end" 731),(.str "_law_shaft" 732)]
noncomputable def o410:Ob:=fun P=>tu #[]
noncomputable def o412:Ob:=fun P=>co "_law_row" "_law_row" 723 245 3 3 407 true 408 (.ref 409) (.ref 410) (.ref 411) 733 734
noncomputable def o413:Ob:=fun P=>fo "_law_row" "_law_row" (top 64) "law_loomwright_k31_whole_faults_found" 663 412
noncomputable def o414:Ob:=fun P=>tu #[]
noncomputable def o417:Ob:=fun P=>co "_law_rows" "_law_rows" 736 254 2 3 414 true 415 .none .none (.ref 416) 739 740
noncomputable def o418:Ob:=fun P=>fo "_law_rows" "_law_rows" (top 65) "law_loomwright_k31_whole_faults_found" 663 417
noncomputable def o419:Ob:=fun P=>tu #[]
noncomputable def o422:Ob:=fun P=>co "law" "law" 742 256 1 3 419 true 420 .none .none (.ref 421) 745 746
noncomputable def o423:Ob:=fun P=>fo "law" "law" (top 66) "law_loomwright_k31_whole_faults_found" 663 422
noncomputable def ob20 (P:Params):List Obj:=o406 P::o407 P::o409 P::o410 P::o412 P::o413 P::o414 P::o417 P::o418 P::o419 P::o422 P::o423 P::[]
noncomputable def ob19 (P:Params):List Obj:=o388 P::o389 P::o390 P::o393 P::o394 P::o395 P::o398 P::o399 P::o400 P::o402 P::o403 P::o405 P::ob20 P
noncomputable def ob18 (P:Params):List Obj:=o368 P::o371 P::o372 P::o373 P::o376 P::o377 P::o378 P::o381 P::o382 P::o383 P::o385 P::o386 P::ob19 P
noncomputable def ob17 (P:Params):List Obj:=o351 P::o352 P::o354 P::o355 P::o356 P::o359 P::o360 P::o361 P::o363 P::o364 P::o366 P::o367 P::ob18 P
noncomputable def ob16 (P:Params):List Obj:=o330 P::o331 P::o334 P::o337 P::o338 P::o339 P::o342 P::o343 P::o344 P::o347 P::o348 P::o349 P::ob17 P
noncomputable def ob15 (P:Params):List Obj:=o315 P::o316 P::o318 P::o319 P::o320 P::o322 P::o323 P::o325 P::o326 P::o327 P::o328 P::o329 P::ob16 P
noncomputable def ob14 (P:Params):List Obj:=o290 P::o292 P::o293 P::o294 P::o297 P::o298 P::o299 P::o301 P::o302 P::o304 P::o305 P::o313 P::ob15 P
noncomputable def ob13 (P:Params):List Obj:=o271 P::o272 P::o275 P::o276 P::o277 P::o280 P::o281 P::o282 P::o285 P::o286 P::o287 P::o289 P::ob14 P
noncomputable def ob12 (P:Params):List Obj:=o253 P::o255 P::o256 P::o258 P::o259 P::o260 P::o261 P::o262 P::o263 P::o264 P::o267 P::o270 P::ob13 P
noncomputable def ob11 (P:Params):List Obj:=o237 P::o238 P::o239 P::o241 P::o242 P::o244 P::o245 P::o246 P::o248 P::o249 P::o251 P::o252 P::ob12 P
noncomputable def ob10 (P:Params):List Obj:=o220 P::o221 P::o223 P::o224 P::o225 P::o227 P::o228 P::o230 P::o231 P::o232 P::o234 P::o235 P::ob11 P
noncomputable def ob9 (P:Params):List Obj:=o195 P::o197 P::o198 P::o199 P::o202 P::o203 P::o211 P::o213 P::o214 P::o216 P::o217 P::o218 P::ob10 P
noncomputable def ob8 (P:Params):List Obj:=o178 P::o179 P::o180 P::o182 P::o183 P::o185 P::o186 P::o187 P::o190 P::o191 P::o192 P::o194 P::ob9 P
noncomputable def ob7 (P:Params):List Obj:=o161 P::o162 P::o164 P::o165 P::o166 P::o168 P::o169 P::o171 P::o172 P::o173 P::o175 P::o176 P::ob8 P
noncomputable def ob6 (P:Params):List Obj:=o143 P::o145 P::o146 P::o147 P::o148 P::o149 P::o150 P::o151 P::o154 P::o157 P::o158 P::o159 P::ob7 P
noncomputable def ob5 (P:Params):List Obj:=o126 P::o127 P::o128 P::o131 P::o132 P::o133 P::o135 P::o136 P::o138 P::o139 P::o140 P::o142 P::ob6 P
noncomputable def ob4 (P:Params):List Obj:=o99 P::o100 P::o101 P::o104 P::o105 P::o106 P::o109 P::o110 P::o111 P::o114 P::o115 P::o123 P::ob5 P
noncomputable def ob3 (P:Params):List Obj:=o82 P::o83 P::o85 P::o86 P::o87 P::o89 P::o90 P::o92 P::o93 P::o94 P::o96 P::o97 P::ob4 P
noncomputable def ob2 (P:Params):List Obj:=o65 P::o66 P::o68 P::o69 P::o71 P::o72 P::o73 P::o75 P::o76 P::o78 P::o79 P::o80 P::ob3 P
noncomputable def ob1 (P:Params):List Obj:=o35 P::o42 P::o43 P::o44 P::o47 P::o54 P::o55 P::o56 P::o59 P::o61 P::o62 P::o64 P::ob2 P
noncomputable def ob0 (P:Params):List Obj:=boot_o_2 P::o3 P::o15 P::o17 P::o18 P::o20 P::o21 P::o22 P::o29 P::o30 P::o31 P::o32 P::ob1 P
noncomputable def frag (P:Params):Frag:=(nat_lit 2,boot_o_2 P)::(nat_lit 3,o3 P)::(nat_lit 15,o15 P)::(nat_lit 17,o17 P)::(nat_lit 18,o18 P)::(nat_lit 20,o20 P)::(nat_lit 21,o21 P)::(nat_lit 22,o22 P)::(nat_lit 29,o29 P)::(nat_lit 30,o30 P)::(nat_lit 31,o31 P)::(nat_lit 32,o32 P)::(nat_lit 35,o35 P)::(nat_lit 42,o42 P)::(nat_lit 43,o43 P)::(nat_lit 44,o44 P)::(nat_lit 47,o47 P)::(nat_lit 54,o54 P)::(nat_lit 55,o55 P)::(nat_lit 56,o56 P)::(nat_lit 59,o59 P)::(nat_lit 61,o61 P)::(nat_lit 62,o62 P)::(nat_lit 64,o64 P)::(nat_lit 65,o65 P)::(nat_lit 66,o66 P)::(nat_lit 68,o68 P)::(nat_lit 69,o69 P)::(nat_lit 71,o71 P)::(nat_lit 72,o72 P)::(nat_lit 73,o73 P)::(nat_lit 75,o75 P)::(nat_lit 76,o76 P)::(nat_lit 78,o78 P)::(nat_lit 79,o79 P)::(nat_lit 80,o80 P)::(nat_lit 82,o82 P)::(nat_lit 83,o83 P)::(nat_lit 85,o85 P)::(nat_lit 86,o86 P)::(nat_lit 87,o87 P)::(nat_lit 89,o89 P)::(nat_lit 90,o90 P)::(nat_lit 92,o92 P)::(nat_lit 93,o93 P)::(nat_lit 94,o94 P)::(nat_lit 96,o96 P)::(nat_lit 97,o97 P)::(nat_lit 99,o99 P)::(nat_lit 100,o100 P)::(nat_lit 101,o101 P)::(nat_lit 104,o104 P)::(nat_lit 105,o105 P)::(nat_lit 106,o106 P)::(nat_lit 109,o109 P)::(nat_lit 110,o110 P)::(nat_lit 111,o111 P)::(nat_lit 114,o114 P)::(nat_lit 115,o115 P)::(nat_lit 123,o123 P)::(nat_lit 126,o126 P)::(nat_lit 127,o127 P)::(nat_lit 128,o128 P)::(nat_lit 131,o131 P)::(nat_lit 132,o132 P)::(nat_lit 133,o133 P)::(nat_lit 135,o135 P)::(nat_lit 136,o136 P)::(nat_lit 138,o138 P)::(nat_lit 139,o139 P)::(nat_lit 140,o140 P)::(nat_lit 142,o142 P)::(nat_lit 143,o143 P)::(nat_lit 145,o145 P)::(nat_lit 146,o146 P)::(nat_lit 147,o147 P)::(nat_lit 148,o148 P)::(nat_lit 149,o149 P)::(nat_lit 150,o150 P)::(nat_lit 151,o151 P)::(nat_lit 154,o154 P)::(nat_lit 157,o157 P)::(nat_lit 158,o158 P)::(nat_lit 159,o159 P)::(nat_lit 161,o161 P)::(nat_lit 162,o162 P)::(nat_lit 164,o164 P)::(nat_lit 165,o165 P)::(nat_lit 166,o166 P)::(nat_lit 168,o168 P)::(nat_lit 169,o169 P)::(nat_lit 171,o171 P)::(nat_lit 172,o172 P)::(nat_lit 173,o173 P)::(nat_lit 175,o175 P)::(nat_lit 176,o176 P)::(nat_lit 178,o178 P)::(nat_lit 179,o179 P)::(nat_lit 180,o180 P)::(nat_lit 182,o182 P)::(nat_lit 183,o183 P)::(nat_lit 185,o185 P)::(nat_lit 186,o186 P)::(nat_lit 187,o187 P)::(nat_lit 190,o190 P)::(nat_lit 191,o191 P)::(nat_lit 192,o192 P)::(nat_lit 194,o194 P)::(nat_lit 195,o195 P)::(nat_lit 197,o197 P)::(nat_lit 198,o198 P)::(nat_lit 199,o199 P)::(nat_lit 202,o202 P)::(nat_lit 203,o203 P)::(nat_lit 211,o211 P)::(nat_lit 213,o213 P)::(nat_lit 214,o214 P)::(nat_lit 216,o216 P)::(nat_lit 217,o217 P)::(nat_lit 218,o218 P)::(nat_lit 220,o220 P)::(nat_lit 221,o221 P)::(nat_lit 223,o223 P)::(nat_lit 224,o224 P)::(nat_lit 225,o225 P)::(nat_lit 227,o227 P)::(nat_lit 228,o228 P)::(nat_lit 230,o230 P)::(nat_lit 231,o231 P)::(nat_lit 232,o232 P)::(nat_lit 234,o234 P)::(nat_lit 235,o235 P)::(nat_lit 237,o237 P)::(nat_lit 238,o238 P)::(nat_lit 239,o239 P)::(nat_lit 241,o241 P)::(nat_lit 242,o242 P)::(nat_lit 244,o244 P)::(nat_lit 245,o245 P)::(nat_lit 246,o246 P)::(nat_lit 248,o248 P)::(nat_lit 249,o249 P)::(nat_lit 251,o251 P)::(nat_lit 252,o252 P)::(nat_lit 253,o253 P)::(nat_lit 255,o255 P)::(nat_lit 256,o256 P)::(nat_lit 258,o258 P)::(nat_lit 259,o259 P)::(nat_lit 260,o260 P)::(nat_lit 261,o261 P)::(nat_lit 262,o262 P)::(nat_lit 263,o263 P)::(nat_lit 264,o264 P)::(nat_lit 267,o267 P)::(nat_lit 270,o270 P)::(nat_lit 271,o271 P)::(nat_lit 272,o272 P)::(nat_lit 275,o275 P)::(nat_lit 276,o276 P)::(nat_lit 277,o277 P)::(nat_lit 280,o280 P)::(nat_lit 281,o281 P)::(nat_lit 282,o282 P)::(nat_lit 285,o285 P)::(nat_lit 286,o286 P)::(nat_lit 287,o287 P)::(nat_lit 289,o289 P)::(nat_lit 290,o290 P)::(nat_lit 292,o292 P)::(nat_lit 293,o293 P)::(nat_lit 294,o294 P)::(nat_lit 297,o297 P)::(nat_lit 298,o298 P)::(nat_lit 299,o299 P)::(nat_lit 301,o301 P)::(nat_lit 302,o302 P)::(nat_lit 304,o304 P)::(nat_lit 305,o305 P)::(nat_lit 313,o313 P)::(nat_lit 315,o315 P)::(nat_lit 316,o316 P)::(nat_lit 318,o318 P)::(nat_lit 319,o319 P)::(nat_lit 320,o320 P)::(nat_lit 322,o322 P)::(nat_lit 323,o323 P)::(nat_lit 325,o325 P)::(nat_lit 326,o326 P)::(nat_lit 327,o327 P)::(nat_lit 328,o328 P)::(nat_lit 329,o329 P)::(nat_lit 330,o330 P)::(nat_lit 331,o331 P)::(nat_lit 334,o334 P)::(nat_lit 337,o337 P)::(nat_lit 338,o338 P)::(nat_lit 339,o339 P)::(nat_lit 342,o342 P)::(nat_lit 343,o343 P)::(nat_lit 344,o344 P)::(nat_lit 347,o347 P)::(nat_lit 348,o348 P)::(nat_lit 349,o349 P)::(nat_lit 351,o351 P)::(nat_lit 352,o352 P)::(nat_lit 354,o354 P)::(nat_lit 355,o355 P)::(nat_lit 356,o356 P)::(nat_lit 359,o359 P)::(nat_lit 360,o360 P)::(nat_lit 361,o361 P)::(nat_lit 363,o363 P)::(nat_lit 364,o364 P)::(nat_lit 366,o366 P)::(nat_lit 367,o367 P)::(nat_lit 368,o368 P)::(nat_lit 371,o371 P)::(nat_lit 372,o372 P)::(nat_lit 373,o373 P)::(nat_lit 376,o376 P)::(nat_lit 377,o377 P)::(nat_lit 378,o378 P)::(nat_lit 381,o381 P)::(nat_lit 382,o382 P)::(nat_lit 383,o383 P)::(nat_lit 385,o385 P)::(nat_lit 386,o386 P)::(nat_lit 388,o388 P)::(nat_lit 389,o389 P)::(nat_lit 390,o390 P)::(nat_lit 393,o393 P)::(nat_lit 394,o394 P)::(nat_lit 395,o395 P)::(nat_lit 398,o398 P)::(nat_lit 399,o399 P)::(nat_lit 400,o400 P)::(nat_lit 402,o402 P)::(nat_lit 403,o403 P)::(nat_lit 405,o405 P)::(nat_lit 406,o406 P)::(nat_lit 407,o407 P)::(nat_lit 409,o409 P)::(nat_lit 410,o410 P)::(nat_lit 412,o412 P)::(nat_lit 413,o413 P)::(nat_lit 414,o414 P)::(nat_lit 417,o417 P)::(nat_lit 418,o418 P)::(nat_lit 419,o419 P)::(nat_lit 422,o422 P)::(nat_lit 423,o423 P)::[]
noncomputable def addrs:List Addr:=[2,3,15,17,18,20,21,22,29,30,31,32,35,42,43,44,47,54,55,56,59,61,62,64,65,66,68,69,71,72,73,75,76,78,79,80,82,83,85,86,87,89,90,92,93,94,96,97,99,100,101,104,105,106,109,110,111,114,115,123,126,127,128,131,132,133,135,136,138,139,140,142,143,145,146,147,148,149,150,151,154,157,158,159,161,162,164,165,166,168,169,171,172,173,175,176,178,179,180,182,183,185,186,187,190,191,192,194,195,197,198,199,202,203,211,213,214,216,217,218,220,221,223,224,225,227,228,230,231,232,234,235,237,238,239,241,242,244,245,246,248,249,251,252,253,255,256,258,259,260,261,262,263,264,267,270,271,272,275,276,277,280,281,282,285,286,287,289,290,292,293,294,297,298,299,301,302,304,305,313,315,316,318,319,320,322,323,325,326,327,328,329,330,331,334,337,338,339,342,343,344,347,348,349,351,352,354,355,356,359,360,361,363,364,366,367,368,371,372,373,376,377,378,381,382,383,385,386,388,389,390,393,394,395,398,399,400,402,403,405,406,407,409,410,412,413,414,417,418,419,422,423]
noncomputable def fr0 (P:Params):Frag:=addrs.zip (ob0 P)
theorem frag_eq (P:Params):frag P=fr0 P:=by kernel_rfl
noncomputable def view:Program:={ PySem.Challenge.pw_loomwright_k31_whole_faults_found with main:={ PySem.Challenge.pw_loomwright_k31_whole_faults_found.main with body:=[top 0,top 1,top 2,top 3,top 4,top 6,top 7,top 8,top 10,top 11,top 12,top 13,top 15,top 16,top 17,top 18,top 19,top 20,top 21,top 22,top 24,top 25,top 26,top 27,top 28,top 29,top 31,top 32,top 34,top 35,top 36,top 37,top 39,top 40,top 41,top 42,top 43,top 44,top 45,top 46,top 47,top 48,top 50,top 51,top 52,top 53,top 54,top 56,top 57,top 58,top 59,top 60,top 61,top 62,top 63,top 64,top 65,top 66] } }
noncomputable abbrev Xt:Shared→Bool:=fun s=>xlAt view [] s&&recOk (RowW.records PySem.Challenge.rw_loomwright_k31_whole_faults_found.row.toRowW) s
theorem addrs_eq:∀ P:Params,addrs=(frag P).map (·.1):=fun _=>by kernel_rfl
noncomputable abbrev hook:Hook:=kHook frag addrs addrs_eq
noncomputable abbrev fuel:Nat:=5998
theorem twins:(fun _=>true) (HX.topT treeTable view (aWorld 1) 0 none,view,fr0,PySem.Challenge.rw_loomwright_k31_whole_faults_found)=true:=by k_qdec
theorem runA (w:World) (os:OsState):(HX.topT treeTable PySem.Challenge.pw_loomwright_k31_whole_faults_found w 11 (some (.ref 6)) fuel ⟨HX.bootT w.params,11,{},Array.mk [],boot_drawn,boot_toks,os⟩ (topStub PySem.Challenge.pw_loomwright_k31_whole_faults_found)).map (fun s=>((staticsOk (importedModules PySem.Challenge.pw_loomwright_k31_whole_faults_found.main.body) (boot_heap w.params) s.abs.heap&&namesBound PySem.Challenge.pw_loomwright_k31_whole_faults_found s.abs.heap&&gensDone s.abs&&laidKept (boot_heap w.params) s.abs.heap),addrs.map s.abs.heap.get?))=some (true,((fr0 w.params).map fun p=>some p.2)):=by
  have _tw:=twins
  rw [PySem.W.Fast.te5923862056798008813,PySem.W.Fast.te2028823354220237199,PySem.W.Fast.te14364793385576792824,PySem.W.Fast.te9621378704136392807,PySem.W.Fast.te4440490293541961337]
  kernel_rfl
theorem runB (w:World) (os:OsState):(HX.topT treeTable PySem.Challenge.pw_loomwright_k31_whole_faults_found w 11 (some (.ref 6)) fuel ⟨HX.bootT w.params,11,{},Array.mk [],boot_drawn,boot_toks,os⟩ (topStub PySem.Challenge.pw_loomwright_k31_whole_faults_found)).map (fun s=>openSeen view [] (importedModules PySem.Challenge.pw_loomwright_k31_whole_faults_found.main.body) Xt true s.abs)=some (openGood view []):=by
  unfold Xt
  rw [PySem.W.Fast.te5923862056798008813,PySem.W.Fast.te4187177175401517315,PySem.W.Fast.te2368527892694137696,PySem.W.Fast.te6548548351676347494,PySem.W.Fast.te3563206688893668419,PySem.W.Fast.te14364793385576792824,PySem.W.Fast.te9621378704136392807,PySem.W.Fast.te4440490293541961337]
  kernel_rfl
theorem left:LeftO PySem.Challenge.pw_loomwright_k31_whole_faults_found view [] Xt hook.obs hook.val fuel:=HX.left_run (by kernel_rfl) (by decide) (fun s=>by kernel_rfl) HX.hb fun w os=>by
  obtain ⟨s,r,l⟩:=Option.map_eq_some_iff.mp (runA w os)
  obtain ⟨s2,r2,l2⟩:=Option.map_eq_some_iff.mp (runB w os)
  cases r.symm.trans r2
  rw [← frag_eq] at l
  exact ⟨s.abs,HX.topT_of r,HX.three l l2⟩
end K31
namespace L2
open PySem PySem.Spec PyProof.Rows
noncomputable abbrev Key:=Sum Int Str
noncomputable def keyIs:Key→Value→Bool
  | .inl k,v=>Value.isInt k v
  | .inr x,v=>Value.isStrOf x v
noncomputable def keyH (w:World):Key→Int
  | .inl k=>hashInt k
  | .inr x=>hashStr w x
theorem keyIs_shape:∀ {k:Key} {v:Value},keyIs k v=true→(∃ i t,k=Sum.inl i∧v=Value.int i t)∨(∃ x t,k=Sum.inr x∧v=Value.str x t)
  | .inl i,v,h=>by
    obtain ⟨t,e⟩:=Value.isInt_shape (k:=i) (v:=v) h
    exact .inl ⟨i,t,rfl,e⟩
  | .inr x,v,h=>by
    obtain ⟨t,e⟩:=Value.isStrOf_shape (x:=x) (v:=v) h
    exact .inr ⟨x,t,rfl,e⟩
theorem key_ll (a b:Int):decide ((Sum.inl a:Key)=Sum.inl b)=(a == b):=by
  by_cases e:a=b
  · subst e;simp
  · have h:¬ (Sum.inl a:Key)=Sum.inl b:=fun q=>e (Sum.inl.inj q)
    rw [decide_eq_false h]
    exact (beq_eq_false_iff_ne.mpr e).symm
theorem key_rr (a b:Str):decide ((Sum.inr a:Key)=Sum.inr b)=decide (a=b):=by
  by_cases e:a=b
  · subst e;simp
  · have h:¬ (Sum.inr a:Key)=Sum.inr b:=fun q=>e (Sum.inr.inj q)
    rw [decide_eq_false h,decide_eq_false e]
theorem key_lr (a:Int) (b:Str):decide ((Sum.inl a:Key)=Sum.inr b)=false:=decide_eq_false (fun q=>nomatch q)
theorem key_rl (a:Str) (b:Int):decide ((Sum.inr a:Key)=Sum.inl b)=false:=decide_eq_false (fun q=>nomatch q)
noncomputable def mixKind (prog:Program) (w:World):PySem.KeyKind prog w Key where
  is:=keyIs
  hash:=keyH w
  inj:=fun v a b ha hb=>by
    rcases keyIs_shape ha with ⟨i,t,rfl,rfl⟩ | ⟨x,t,rfl,rfl⟩
    · rcases keyIs_shape hb with ⟨j,u,rfl,e⟩ | ⟨y,u,rfl,e⟩
      · injection e with e1 _;rw [e1]
      · exact nomatch e
    · rcases keyIs_shape hb with ⟨j,u,rfl,e⟩ | ⟨y,u,rfl,e⟩
      · exact nomatch e
      · injection e with e1 _;rw [e1]
  byValue:=fun k v h=>by
    rcases keyIs_shape h with ⟨i,t,rfl,rfl⟩ | ⟨x,t,rfl,rfl⟩ <;> rfl
  pyHash:=fun hv h=>by
    rcases keyIs_shape hv with ⟨i,t,rfl,rfl⟩ | ⟨x,t,rfl,rfl⟩
    · exact wpAny_pyHash_int h
    · exact wpAny_pyHash_str h
  eqBool:=fun hu hv h=>by
    rcases keyIs_shape hu with ⟨i,t,rfl,rfl⟩ | ⟨x,t,rfl,rfl⟩
    · rcases keyIs_shape hv with ⟨j,u,rfl,rfl⟩ | ⟨y,u,rfl,rfl⟩
      · rw [key_ll] at h;exact wpAny_eqBool_int h
      · rw [key_lr] at h;exact SeqAt.EqAt.int_str i t y u _ _ _ _ h
    · rcases keyIs_shape hv with ⟨j,u,rfl,rfl⟩ | ⟨y,u,rfl,rfl⟩
      · rw [key_rl] at h;exact SeqAt.EqAt.str_int x t j u _ _ _ _ h
      · rw [key_rr] at h;exact wpAny_eqBool_str h
  «strs» := fun k x t v h=>by
    rcases keyIs_shape h with ⟨i,u,rfl,e⟩ | ⟨y,u,rfl,e⟩
    · exact nomatch e
    · injection e with e1 _
      subst e1
      cases v <;> rfl
end L2
namespace L2
open PySem PySem.Spec PyProof.Rows
inductive V where
  | non | bl (b:Bool) | int (i:Int) | str (x:Str) | byt (b:Array UInt8) | flt (b:UInt64) | ref (a:Addr) | ty (n:String)
  deriving DecidableEq
noncomputable def RelV:V→Value→Prop
  | .non,u=>u=Value.none
  | .bl b,u=>u=Value.bool b
  | .int i,u=>∃ t,u=Value.int i t
  | .str x,u=>∃ t,u=Value.str x t
  | .byt b,u=>∃ t,u=Value.bytes b t
  | .flt b,u=>∃ t,u=Value.float b t
  | .ref a,u=>u=Value.ref a
  | .ty n,u=>u=Value.type n
noncomputable abbrev Vals:List V→List Value→Prop:=Paired RelV
theorem Vals.length {xs:List V} {us:List Value} (r:Vals xs us):xs.length=us.length:=Paired.length r
theorem Vals.get:∀ {xs:List V} {us:List Value} {i:Nat} {x:V},Vals xs us→xs[i]?=some x→∃ u,us[i]?=some u∧RelV x u
  | _,_,_,_, .nil,e=>by simp at e
  | _,_,0,_, .cons r _,e=>by simp at e;subst e;exact ⟨_,rfl,r⟩
  | _,_,i+1,x, .cons _ t,e=>by
    obtain ⟨u,h1,h2⟩:=Vals.get (i:=i) (x:=x) t (by simpa using e)
    exact ⟨u,by simpa using h1,h2⟩
theorem Vals.set {x:V} {u:Value} (r:RelV x u):∀ {xs:List V} {us:List Value} (i:Nat),Vals xs us→Vals (xs.set i x) (us.set i u)
  | _,_,_, .nil=> .nil
  | _,_,0, .cons _ t=> .cons r t
  | _,_,i+1, .cons q t=> .cons q (Vals.set r i t)
theorem Vals.append:∀ {xs ys:List V} {us ws:List Value},Vals xs us→Vals ys ws→Vals (xs++ys) (us++ws)
  | _,_,_,_, .nil,s=>s
  | _,_,_,_, .cons r t,s=> .cons r (Vals.append t s)
theorem Vals.take:∀ {xs:List V} {us:List Value} (n:Nat),Vals xs us→Vals (xs.take n) (us.take n)
  | _,_,0,_=> .nil
  | _,_,_+1, .nil=> .nil
  | _,_,n+1, .cons r t=> .cons r (Vals.take n t)
theorem Vals.drop:∀ {xs:List V} {us:List Value} (n:Nat),Vals xs us→Vals (xs.drop n) (us.drop n)
  | _,_,0,r=>r
  | _,_,_+1, .nil=> .nil
  | _,_,n+1, .cons _ t=>Vals.drop n t
noncomputable def RelO:Option V→Option Value→Prop
  | some v,some u=>RelV v u
  | none,none=>True
  | _,_=>False
noncomputable def KV {κ:Type}:List (κ × V)→List (κ × Value)→Prop:=Paired fun (p:κ × V) (q:κ × Value)=>p.1=q.1∧RelV p.2 q.2
noncomputable def kV:Key→V
  | .inl i=> .int i
  | .inr x=> .str x
inductive HO where
  | lst (xs:List V)
  | tup (xs:List V)
  | dK (kvs:List (Key × V)) | dT (kvs:List (List Key × V))
  | set (S:Int→Bool) (n:Nat)
  | ins (C dx:Addr) (fs:List (Str × V))
  | own (x:Addr)
  | xd (fs:List (Str × V))
  | met (f x:Addr)
  | rng (lo hi:Int)
  | frz (o:Obj) (u:HO)
  | tbl (ps:Array Value)
  | ext (φ:Heap→Prop)
noncomputable abbrev Hp:=Addr→Option HO
noncomputable def upd (H:Hp) (a:Addr) (o:HO):Hp:=fun b=>if b=a then some o else H b
theorem upd_same {H:Hp} {a:Addr} {o:HO}:upd H a o a=some o:=by unfold upd;rw [if_pos rfl]
theorem upd_ne {H:Hp} {a b:Addr} {o:HO} (h:b≠a):upd H a o b=H b:=by unfold upd;rw [if_neg h]
theorem ne_of {H:Hp} {a b:Addr} {o u:HO} (h:H a=some o) (h':H b=some u) (d:o≠u):a≠b:=by
  intro e;subst e;rw [h] at h';exact d (Option.some.inj h')
theorem ne_of_none {H:Hp} {a b:Addr} {o:HO} (h:H a=some o) (h':H b=none):a≠b:=by
  intro e;subst e;rw [h] at h';cases h'
section
variable (P:Program) (w:World)
noncomputable def ObjOk (H:Hp) (h:Heap) (a:Addr):HO→Prop
  | .lst xs=>xs.length≤sizeLine∧∃ (its:List Value) (n:Nat),Vals xs its∧h.get? a=some { cls:= .type "list",data:= .seq its.toArray n }
  | .tup xs=>xs.length≤sizeLine∧∃ its:List Value,Vals xs its∧IsTup h a its.toArray
  | .dK kvs=>kvs.length≤sizeLine∧(a == sysModules)=false∧∃ vs,KV kvs vs∧h.DictOf (mixKind P w) a vs
  | .dT kvs=>kvs.length≤sizeLine∧(a == sysModules)=false∧∃ xs:List (List Key × Addr × Value),
      Paired (fun (p:List Key × V) (q:List Key × Addr × Value)=>p.1=q.1∧H q.2.1=some (.tup (p.1.map kV))∧RelV p.2 q.2.2) kvs xs∧
      ∃ o es ep,h.get? a=some o∧o.ExactDict∧o.data= .dict es ep∧es.toList=xs.map (entryOfKey (tupleKind (mixKind P w)))∧(xs.map (·.1)).Nodup
  | .set S n=>h.SetOf (intKind P w) a S n
  | .ins C dx fs=>H dx=some (.own a)∧fs.length≤1000∧dx≠a∧h.get? a=some (PySem.W.instObj C dx)∧
      ∃ mA,h.Ns1 dx mA∧(∀ f,RelO (fs.lookup f) (mA f))∧PySem.Within mA (fs.map (·.1))
  | .own _=>∃ o,h.get? a=some o
  | .xd fs=>∃ mA,h.Ns1 a mA∧∀ f,RelO (fs.lookup f) (mA f)
  | .rng lo hi=>∃ t u v,h.get? a=some { cls:= .type "range",data:= .fields #[.int lo t, .int hi u, .int 1 v] }
  | .frz o u=>h.get? a=some o∧ObjOk H h a u
  | .tbl ps=>h.get? a=some { cls:= .none,data:= .fields ps }
  | .met f x=>h.get? a=some (PySem.W.methodObj (.ref f) (.ref x))
  | .ext φ=>φ h∧(∃ o,h.get? a=some o)∧∀ h1 h2:Heap,φ h1→(∀ o,h1.get? a=some o→h2.get? a=some o)→φ h2
noncomputable def HOk (H:Hp) (h:Heap):Prop:=∀ a o,H a=some o→ObjOk P w H h a o
end
section
variable {P:Program} {w:World} {H H':Hp} {h h':Heap} {a:Addr} {o:HO}
theorem ObjOk.lt (x:ObjOk P w H h a o):a<h.objs.size:=by
  cases o with
  | lst xs=>obtain ⟨_,_,_,_,e⟩:=x;exact Heap.lt_size e
  | tup xs=>obtain ⟨_,_,_,p⟩:=x;exact p.lt
  | dK kvs=>obtain ⟨_,_,_,_,o,_,_,e,_⟩:=x;exact Heap.lt_size e
  | dT kvs=>obtain ⟨_,_,_,_,o,_,_,e,_⟩:=x;exact Heap.lt_size e
  | set S n=>obtain ⟨o,_,_,_,e,_⟩:=x;exact Heap.lt_size e
  | ins C dx fs=>obtain ⟨_,_,_,e,_⟩:=x;exact Heap.lt_size e
  | own y=>obtain ⟨_,e⟩:=x;exact Heap.lt_size e
  | xd fs=>obtain ⟨_,⟨_,_,_,e,_⟩,_⟩:=x;exact Heap.lt_size e
  | rng lo hi=>obtain ⟨_,_,_,e⟩:=x;exact Heap.lt_size e
  | frz ob u=>obtain ⟨e,_⟩:=x;exact Heap.lt_size e
  | tbl ps=>exact Heap.lt_size (show h.get? a=some _ from x)
  | met f y=>exact Heap.lt_size (show h.get? a=some _ from x)
  | ext φ=>obtain ⟨_,⟨_,e⟩,_⟩:=x;exact Heap.lt_size e
theorem Paired.mapP {α β:Type} {F G:α→β→Prop}:∀ {l₁:List α} {l₂:List β},Paired F l₁ l₂→(∀ a b,F a b→G a b)→Paired G l₁ l₂
  | _,_, .nil,_=> .nil
  | _,_, .cons r t,f=> .cons (f _ _ r) (Paired.mapP t f)
theorem ObjOk.stay (x:ObjOk P w H h a o) (k:∀ b u,(b=a∨H b=some (.own a))→h.get? b=some u→h'.get? b=some u)
    (ho:∀ b,H b=some (.own a)→H' b=some (.own a)) (ht:∀ b xs,H b=some (.tup xs)→H' b=some (.tup xs)):ObjOk P w H' h' a o:=by
  induction o with
  | lst xs=>obtain ⟨z,its,n,r,e⟩:=x;exact ⟨z,its,n,r,k _ _ (.inl rfl) e⟩
  | tup xs=>obtain ⟨z,its,r,ob,e,c⟩:=x;exact ⟨z,its,r,ob,k _ _ (.inl rfl) e,c⟩
  | dK kvs=>obtain ⟨z,y,vs,r,ob,es,ep,e,c⟩:=x;exact ⟨z,y,vs,r,ob,es,ep,k _ _ (.inl rfl) e,c⟩
  | dT kvs=>
    obtain ⟨z,y,xs,r,ob,es,ep,e,c⟩:=x
    exact ⟨z,y,xs,Paired.mapP r fun p q z=>⟨z.1,ht _ _ z.2.1,z.2.2⟩,ob,es,ep,k _ _ (.inl rfl) e,c⟩
  | set S n=>obtain ⟨ob,es,ep,t,e,c⟩:=x;exact ⟨ob,es,ep,t,k _ _ (.inl rfl) e,c⟩
  | ins C dx fs=>
    obtain ⟨d,z,ne,e,mA,⟨od,es,ep,e2,c⟩,r⟩:=x
    exact ⟨ho _ d,z,ne,k _ _ (.inl rfl) e,mA,⟨od,es,ep,k _ _ (.inr d) e2,c⟩,r⟩
  | own y=>obtain ⟨ob,e⟩:=x;exact ⟨ob,k _ _ (.inl rfl) e⟩
  | xd fs=>obtain ⟨mA,⟨od,es,ep,e,c⟩,r⟩:=x;exact ⟨mA,⟨od,es,ep,k _ _ (.inl rfl) e,c⟩,r⟩
  | rng lo hi=>obtain ⟨t,u,v,e⟩:=x;exact ⟨t,u,v,k _ _ (.inl rfl) e⟩
  | frz ob u ih=>obtain ⟨e,q⟩:=x;exact ⟨k _ _ (.inl rfl) e,ih q⟩
  | tbl ps=>
    have e:h.get? a=some { cls:= .none,data:= .fields ps }:=x
    show h'.get? a=some { cls:= .none,data:= .fields ps }
    exact k a _ (.inl rfl) e
  | met f y=>
    have e:h.get? a=some (PySem.W.methodObj (.ref f) (.ref y)):=x
    show h'.get? a=some (PySem.W.methodObj (.ref f) (.ref y))
    exact k a _ (.inl rfl) e
  | ext φ=>obtain ⟨p,⟨o,e⟩,st⟩:=x;exact ⟨st _ _ p fun o q=>k _ _ (.inl rfl) q,⟨o,k _ _ (.inl rfl) e⟩,st⟩
theorem HOk.lt (x:HOk P w H h) (e:H a=some o):a<h.objs.size:=(x a o e).lt
theorem HOk.fresh (x:HOk P w H h) (e:h.objs.size≤a):H a=none:=by
  cases q:H a with
  | none=>rfl
  | some u=>exact absurd (Nat.lt_of_lt_of_le (x.lt q) e) (Nat.lt_irrefl _)
theorem HOk.kept (x:HOk P w H h) (k:∀ b u,h.get? b=some u→h'.get? b=some u):HOk P w H h':=fun a o e=>
  (x a o e).stay (fun b u _ q=>k b u q) (fun _ q=>q) fun _ _ q=>q
theorem HOk.laid (x:HOk P w H h) (k:∀ b u,h.get? b=some u→h'.get? b=some u) (hp:h.objs.size≤a) (new:ObjOk P w (upd H a o) h' a o):HOk P w (upd H a o) h':=fun b u e=>by
  have hn:=x.fresh hp
  by_cases hb:b=a
  · subst hb;rw [upd_same] at e;cases e;exact new
  · rw [upd_ne hb] at e
    exact (x b u e).stay (fun c v _ q=>k c v q) (fun c q=>by rw [upd_ne (ne_of_none q hn)];exact q) fun c xs q=>by rw [upd_ne (ne_of_none q hn)];exact q
end
noncomputable def Rd (H:Hp) (a:Addr) (u:HO):Prop:=H a=some u∨∃ o,H a=some (.frz o u)
theorem Rd.ok {P:Program} {w:World} {H:Hp} {h:Heap} {a:Addr} {u:HO} (r:Rd H a u) (x:HOk P w H h):ObjOk P w H h a u:=by
  rcases r with r | ⟨o,r⟩
  · exact x a u r
  · obtain ⟨_,q⟩:=x a _ r
    exact q
noncomputable def Mut:Option HO→Prop
  | some (.lst _)=>True
  | some (.dK _)=>True
  | some (.dT _)=>True
  | some (.set _ _)=>True
  | some (.ins _ _ _)=>True
  | some (.ext _)=>True
  | _=>False
section
variable {P:Program} {w:World} {H:Hp} {h h':Heap} {x e:Addr} {o':HO}
theorem HOk.write (ok:HOk P w H h) (mu:Mut (H x)) (he:e=x∨H e=some (.own x)) (k:∀ b u,b≠e→h.get? b=some u→h'.get? b=some u) (heo:∃ u,h'.get? e=some u)
    (new:ObjOk P w (upd H x o') h' x o'):HOk P w (upd H x o') h':=fun b u q=>by
  have nown:∀ c y,H c=some (.own y)→c≠x:=fun c y r z=>by subst z;rw [r] at mu;exact mu
  have ntup:∀ c xs,H c=some (.tup xs)→c≠x:=fun c xs r z=>by subst z;rw [r] at mu;exact mu
  by_cases hb:b=x
  · subst hb;rw [upd_same] at q;cases q;exact new
  · rw [upd_ne hb] at q
    by_cases hbe:b=e
    · have q':H b=some (.own x):=by
        rcases he with z | z
        · exact absurd (hbe.trans z) hb
        · rw [hbe];exact z
      rw [q] at q';cases q'
      obtain ⟨v,hv⟩:=heo
      exact ⟨v,by rw [hbe];exact hv⟩
    · refine (ok b u q).stay (fun c v hc r=>k c v ?_ r) (fun c r=>by rw [upd_ne (nown c b r)];exact r) fun c xs r=>by rw [upd_ne (ntup c xs r)];exact r
      rcases hc with rfl | hc
      · exact hbe
      · rintro rfl
        rcases he with z | z
        · exact nown c b hc z
        · rw [hc] at z;cases z;exact hb rfl
end
structure Un (fs ex:List Addr) (H H':Hp) (h h':Heap):Prop where
  keep:∀ b o,h.get? b=some o→H b=none→b∉fs→b∉ex→h'.get? b=some o
  slot:∀ b o,h.get? b=some o→H b=none→b∈fs→b∉ex→∃ sl,h'.get? b=some { o with slots:=sl }
  free:∀ b o,h.get? b=some o→H b=none→b∉ex→H' b=none
  there:∀ b o,h.get? b=some o→b∉ex→∃ o',h'.get? b=some o'
  tups:∀ b xs,H b=some (.tup xs)→H' b=some (.tup xs)
  frzs:∀ b o u,H b=some (.frz o u)→H' b=some (.frz o u)
  tbls:∀ b ps,H b=some (.tbl ps)→∃ more,H' b=some (.tbl (ps++more))
section
variable {fs fs' ex ex':List Addr} {H H1 H2:Hp} {h h1 h2 h':Heap} {a x e:Addr} {o:HO}
theorem Un.any (u:Un fs ex H H1 h h1) {b:Addr} {ob:Obj} (q:h.get? b=some ob) (n:H b=none) (hx:b∉ex):∃ sl,h1.get? b=some { ob with slots:=sl }:=by
  by_cases hb:b∈fs
  · exact u.slot b ob q n hb hx
  · exact ⟨ob.slots,u.keep b ob q n hb hx⟩
theorem Un.kept (k:∀ b u,h.get? b=some u→h'.get? b=some u):Un fs ex H H h h':=
  ⟨fun b ob q _ _ _=>k b ob q,fun b ob q _ _ _=>⟨ob.slots,k b ob q⟩,fun _ _ _ n _=>n,fun b ob q _=>⟨ob,k b ob q⟩,fun _ _ q=>q,fun _ _ _ q=>q,fun _ ps q=>⟨#[],by rw [q];simp⟩⟩
theorem Un.refl:Un fs ex H H h h:=Un.kept fun _ _ q=>q
theorem Un.laid (k:∀ b u,h.get? b=some u→h'.get? b=some u) (hp:h.objs.size≤a) (hn:H a=none):Un fs ex H (upd H a o) h h' where
  keep:=fun b u q _ _ _=>k b u q
  slot:=fun b u q _ _ _=>⟨u.slots,k b u q⟩
  free:=fun b u q n _=>by rw [upd_ne (Nat.ne_of_lt (Nat.lt_of_lt_of_le (Heap.lt_size q) hp))];exact n
  there:=fun b u q _=>⟨u,k b u q⟩
  tups:=fun b xs q=>by rw [upd_ne (ne_of_none q hn)];exact q
  frzs:=fun b u xs q=>by rw [upd_ne (ne_of_none q hn)];exact q
  tbls:=fun b ps q=>⟨#[],by rw [upd_ne (ne_of_none q hn),q];simp⟩
theorem Un.write (mu:Mut (H x)) (he:e=x∨H e=some (.own x)) (k:∀ b u,b≠e→h.get? b=some u→h'.get? b=some u) (heo:∃ u,h'.get? e=some u):Un fs ex H (upd H x o) h h':=by
  have hx:∀ b,H b=none→b≠x:=fun b n z=>by subst z;rw [n] at mu;exact mu
  have hb:∀ b,H b=none→b≠e:=fun b n z=>by
    subst z
    rcases he with r | r
    · exact hx b n r
    · rw [n] at r;cases r
  have hm:∀ b u,H b=some u→¬ Mut (some u)→b≠x:=fun b u q nm z=>by subst z;rw [q] at mu;exact nm mu
  refine ⟨fun b u q n _ _=>k b u (hb b n) q,fun b u q n _ _=>⟨u.slots,k b u (hb b n) q⟩,fun b u q n _=>by rw [upd_ne (hx b n)];exact n,fun b u q _=> ?_,
    fun b xs q=>by rw [upd_ne (hm b _ q fun z=>z)];exact q,fun b u xs q=>by rw [upd_ne (hm b _ q fun z=>z)];exact q,fun b ps q=>⟨#[],by rw [upd_ne (hm b _ q fun z=>z),q];simp⟩⟩
  by_cases hbe:b=e
  · subst hbe;exact heo
  · exact ⟨u,k b u hbe q⟩
end
noncomputable def trk (h:Heap) (H:Hp):List Addr:=(List.range h.objs.size).filter fun a=>(H a).isSome
noncomputable def hidT (h:Heap) (H:Hp):Heap:=PySem.W.hideAll h (trk h H)
theorem hidT_size (h:Heap) (H:Hp):(hidT h H).objs.size=h.objs.size:=PySem.W.hideAll_size _ _
theorem hidT_get {h:Heap} {H:Hp} {b:Addr} {o:Obj} (e:h.get? b=some o) (n:H b=none):(hidT h H).get? b=some o:=
  PySem.W.hideAll_get _ e fun hm=>by
    have q:(H b).isSome=true:=(List.mem_filter.mp hm).2
    rw [n] at q;simp at q
theorem of_hidT {h:Heap} {H:Hp} {b:Addr} {o:Obj} (e:(hidT h H).get? b=some o):h.get? b=some o∧H b=none:=by
  have e':h.get? b=some o:=PySem.W.of_hideAll (trk h H) e
  refine ⟨e',?_⟩
  cases q:H b with
  | none=>rfl
  | some x=>
    have hm:b∈trk h H:=List.mem_filter.mpr ⟨List.mem_range.mpr (Heap.lt_size e'),by simp [q]⟩
    have z:(hidT h H).get? b=none:=PySem.W.hideAll_none (trk h H) hm
    rw [z] at e;cases e
noncomputable def allNews (g h:Heap) (L:Addr):List (Addr × Obj):=(List.range h.objs.size).filterMap fun a=>if a=L∨(g.get? a).isSome=true then none else (h.get? a).map fun o=>(a,o)
noncomputable def rest (g h:Heap) (L d:Addr):List (Addr × Obj):=(allNews g h L).filter fun p=>decide (p.1≠d)
end L2
namespace L2
open PySem PySem.Spec PyProof.Rows
structure Mod (K:PySem.W.Frag) (mg:Str→Option Value) (base:Heap):Prop where
  kin:K.In base
  glob:base.Ns mainGlobals mg
  blt:∃ mb,base.Ns builtinsNs mb∧∀ x:Str,x≠"__name__"→mb x=bootBuiltins x
  nolimit:base.NoLimit
structure Cx where
  prog:Program
  w:World
  K:PySem.W.Frag
  mg:Str→Option Value
  base:Heap
  A:Around
  N:List Str
  s₀:Shared
  H₀:Hp
  env:Env
  outer:List Env
  stack:List Env
  ex:List Addr
  fn:Str→Bool
  calm:Bool
  pn:List (Addr × Obj)
  xe:Value→Shared→Prop
noncomputable def frs (l:List Env):List Addr:=l.filterMap (·.frame)
noncomputable abbrev Cx.fs (X:Cx):List Addr:=frs X.outer
noncomputable def Vis (sc:Scope) (x:Str):Prop:=sc.names.lookup x=some .local∨sc.names.lookup x=some .cell∨sc.names.lookup x=some .free
noncomputable def Loc (sc:Scope) (x:Str):Prop:=sc.names.lookup x=some .local∨sc.names.lookup x=some .cell
noncomputable def Look (env:Env) (h:Heap) (m:Str→Option Value) (x:Str) (u:Value):Prop:=
  (env.kindOf x=some .local∧m x=some u)∨((env.kindOf x=some .cell∨env.kindOf x=some .free)∧∃ c,env.cells.lookup x=some c∧h.IsCell c (some u))
structure Cx.Ok (X:Cx):Prop where
  mod:Mod X.K X.mg X.base
  kind:X.env.scope.kind= .function
  glob:X.env.globals=mainGlobals
  blt:X.env.builtins=builtinsNs
  above:X.s₀.heap.objs.size≤X.env.locals
  inj:∀ x y c,X.env.cells.lookup x=some c→X.env.cells.lookup y=some c→x=y
  has:∀ x,(X.env.kindOf x=some .cell∨X.env.kindOf x=some .free)→∃ c,X.env.cells.lookup x=some c
  cab:∀ x c,X.fn x=true→X.env.cells.lookup x=some c→X.s₀.heap.objs.size≤c
  hd:X.calm=true→X.A.handled=none
  frames:X.A.frames=some X.stack
  stk:X.stack=X.outer∨(X.stack=X.env::X.outer∧X.env.frame=some X.env.locals)
  exf:∀ b∈X.ex,b≠X.env.locals∧∀ x c,X.env.cells.lookup x=some c→c≠b
  bs:∀ b o,X.base.get? b=some o→X.s₀.heap.get? b=some o∧X.H₀ b=none
  bsz:X.base.objs.size≤X.s₀.heap.objs.size
  noex:∀ b o,X.base.get? b=some o→b∉X.ex
  exfs:∀ b∈X.ex,b∉X.fs
  funs:X.s₀.heap.FunFrames X.base X.outer
  frf:∀ b∈X.fs,X.H₀ b=none
structure Inv (X:Cx) (pins:List (Addr × Obj)) (σ:List (Option V)) (H:Hp) (s:Shared):Prop where
  ok:X.Ok
  os:s.os=X.s₀.os
  bare:AllBare s.gens
  base:Un X.fs X.ex X.H₀ H X.s₀.heap s.heap
  loc:∃ m,s.heap.Ns X.env.locals m∧∀ (i:Nat) (x:Str) (v:V),X.N[i]?=some x→σ[i]?=some (some v)→Vis X.env.scope x→∃ u,RelV v u∧Look X.env s.heap m x u
  cell:∀ x c,X.env.cells.lookup x=some c→∃ v,s.heap.IsCell c v
  free:H X.env.locals=none
  freeC:∀ x c,X.env.cells.lookup x=some c→H c=none
  pin:∀ p∈X.pn++pins,s.heap.get? p.1=some p.2∧H p.1=none∧p.1≠X.env.locals∧p.1∉X.fs∧∀ v,p.2.data≠ .cell v
  hok:HOk X.prog X.w H s.heap
  len:σ.length=X.N.length
section
variable {X:Cx} {pins:List (Addr × Obj)} {σ:List (Option V)} {H H':Hp} {s:Shared} {h':Heap}
theorem Cx.Ok.nofr (ok:X.Ok) {b:Addr} {o:Obj} (e:X.base.get? b=some o):b∉X.fs:=fun hb=>by
  have:=(ok.funs.mem hb).1
  rw [e] at this;cases this
theorem Inv.bs (I:Inv X pins σ H s):∀ b o,X.base.get? b=some o→s.heap.get? b=some o∧H b=none:=fun b o e=>
  ⟨I.base.keep b o (I.ok.bs b o e).1 (I.ok.bs b o e).2 (I.ok.nofr e) (I.ok.noex b o e),I.base.free b o (I.ok.bs b o e).1 (I.ok.bs b o e).2 (I.ok.noex b o e)⟩
theorem Inv.bk (I:Inv X pins σ H s):∀ b o,X.base.get? b=some o→s.heap.get? b=some o:=fun b o e=>(I.bs b o e).1
theorem Inv.mod (I:Inv X pins σ H s):Mod X.K X.mg X.base:=I.ok.mod
theorem Inv.kIn (I:Inv X pins σ H s):X.K.In s.heap:=I.ok.mod.kin.keeps I.bk
theorem Inv.fr (I:Inv X pins σ H s):∃ m,Fr X.base X.env.locals s.heap m:=
  let ⟨m,hn,_⟩:=I.loc
  ⟨m,hn,I.bk,Nat.le_trans I.ok.bsz I.ok.above⟩
theorem Inv.lt (I:Inv X pins σ H s):X.env.locals<s.heap.objs.size:=let ⟨_,hn,_⟩:=I.loc;hn.lt
theorem Inv.sz (I:Inv X pins σ H s):X.s₀.heap.objs.size≤s.heap.objs.size:=Nat.le_trans I.ok.above (Nat.le_of_lt I.lt)
theorem Inv.nofs (I:Inv X pins σ H s) {a:Addr} (h:s.heap.objs.size≤a):a∉X.fs:=fun hb=>by
  obtain ⟨_,o,ho,_⟩:=I.ok.funs.mem hb
  exact absurd (Nat.lt_of_lt_of_le (Heap.lt_size ho) (Nat.le_trans I.sz h)) (Nat.lt_irrefl _)
theorem Inv.cne (I:Inv X pins σ H s):∀ x c,X.env.cells.lookup x=some c→c≠X.env.locals:=fun x c e z=>by
  obtain ⟨v,o,ho,hd⟩:=I.cell x c e
  obtain ⟨m,⟨o',es,ep,ho',hd',_⟩,_⟩:=I.loc
  rw [z,ho'] at ho;cases ho;rw [hd'] at hd;cases hd
theorem Inv.funs (I:Inv X pins σ H s):s.heap.FunFrames X.base X.outer:=by
  have all:∀ (l:List Env),(∀ b∈frs l,b∈X.fs)→X.s₀.heap.FunFrames X.base l→s.heap.FunFrames X.base l:=by
    intro l
    induction l with
    | nil=>intro _ _;trivial
    | cons env r ih=>
      intro hs hl
      obtain ⟨hk,⟨L,o,hf,hn,ho,hd⟩,hr⟩:=hl
      have hL:L∈X.fs:=hs L (by unfold frs;rw [List.filterMap_cons,hf];exact List.mem_cons_self)
      obtain ⟨sl,e⟩:=I.base.slot L o ho (I.ok.frf L hL) hL fun z=>I.ok.exfs L z hL
      exact ⟨hk,⟨L,_,hf,hn,e,hd⟩,ih (fun b hb=>hs b (by unfold frs;rw [List.filterMap_cons,hf];exact List.mem_cons_of_mem _ hb)) hr⟩
  exact all X.outer (fun _ hb=>hb) I.ok.funs
theorem Inv.stack (I:Inv X pins σ H s):s.heap.FunFrames X.base X.stack:=by
  rcases I.ok.stk with e | ⟨e,hf⟩
  · rw [e];exact I.funs
  · rw [e]
    obtain ⟨m,hn,_⟩:=I.loc
    refine .cons (by rw [I.ok.kind];decide) hf hn ?_ I.funs
    exact Heap.get?_none_of_le (Nat.le_trans I.ok.bsz I.ok.above)
theorem Inv.stkSub (I:Inv X pins σ H s):∀ b∈frs X.stack,b∈X.env.locals::X.fs:=fun b hb=>by
  rcases I.ok.stk with e | ⟨e,hf⟩
  · rw [e] at hb;exact List.mem_cons_of_mem _ hb
  · rw [e] at hb
    unfold frs at hb
    rw [List.filterMap_cons,hf] at hb
    exact hb
theorem Inv.stkFree (I:Inv X pins σ H s):∀ b∈frs X.stack,H b=none:=fun b hb=>by
  rcases List.mem_cons.mp (I.stkSub b hb) with e | hb
  · rw [e];exact I.free
  · obtain ⟨_,o,ho,_⟩:=I.ok.funs.mem hb
    exact I.base.free b o ho (I.ok.frf b hb) fun z=>I.ok.exfs b z hb
theorem Inv.step {g':Array GenState} {t':Nat} {d':Drawn} {ch:List Addr} (I:Inv X pins σ H s)
    (hch:∀ b∈ch,(b∈X.ex∨X.s₀.heap.objs.size≤b)∧b≠X.env.locals∧(∀ x c,X.env.cells.lookup x=some c→c≠b)∧∀ p∈X.pn++pins,p.1≠b)
    (keep:∀ b o,b≠X.env.locals→b∉X.fs→b∉ch→s.heap.get? b=some o→H b=none→h'.get? b=some o)
    (slot:∀ b o,b≠X.env.locals→b∈X.fs→b∉ch→s.heap.get? b=some o→H b=none→∃ sl,h'.get? b=some { o with slots:=sl }) (free:∀ b o,b∉ch→s.heap.get? b=some o→H b=none→H' b=none)
    (there:∀ b o,b∉ch→s.heap.get? b=some o→∃ o',h'.get? b=some o')
    (tups:∀ b xs,H b=some (.tup xs)→H' b=some (.tup xs)) (frzs:∀ b o u,H b=some (.frz o u)→H' b=some (.frz o u)) (tbls:∀ b ps,H b=some (.tbl ps)→∃ more,H' b=some (.tbl (ps++more)))
    (ns:∀ m,s.heap.Ns X.env.locals m→h'.Ns X.env.locals m) (hok:HOk X.prog X.w H' h') (hg:AllBare g'):
    Inv X pins σ H' { s with heap:=h',gens:=g',drawn:=d',toks:=t' }:=by
  have neL:∀ b o,X.s₀.heap.get? b=some o→b≠X.env.locals:=fun b o e=>Nat.ne_of_lt (Nat.lt_of_lt_of_le (Heap.lt_size e) I.ok.above)
  have neC:∀ b o,X.s₀.heap.get? b=some o→b∉X.ex→b∉ch:=fun b o e hx hb=>by
    rcases (hch b hb).1 with z | z
    · exact hx z
    · exact absurd (Nat.lt_of_lt_of_le (Heap.lt_size e) z) (Nat.lt_irrefl _)
  have cellK:∀ x c,X.env.cells.lookup x=some c→∀ v,s.heap.IsCell c v→h'.IsCell c v:=fun x c e v ⟨o,ho,hd⟩=>by
    have nch:c∉ch:=fun z=>(hch c z).2.2.1 x c e rfl
    by_cases hc:c∈X.fs
    · obtain ⟨sl,q⟩:=slot c o (I.cne x c e) hc nch ho (I.freeC x c e)
      exact ⟨_,q,hd⟩
    · exact ⟨o,keep c o (I.cne x c e) hc nch ho (I.freeC x c e),hd⟩
  refine ⟨I.ok,I.os,hg,⟨fun b o e n hb hx=> ?_,fun b o e n hb hx=> ?_,fun b o e n hx=> ?_,fun b o e hx=> ?_,fun b xs e=>tups b xs (I.base.tups b xs e),fun b o xs e=>frzs b o xs (I.base.frzs b o xs e),fun b ps e=> ?_⟩,?_,fun x c e=> ?_,?_,fun x c e=> ?_,fun p hp=> ?_,hok,I.len⟩
  · exact keep b o (neL b o e) hb (neC b o e hx) (I.base.keep b o e n hb hx) (I.base.free b o e n hx)
  · obtain ⟨sl,e1⟩:=I.base.slot b o e n hb hx
    obtain ⟨sl',e2⟩:=slot b _ (neL b o e) hb (neC b o e hx) e1 (I.base.free b o e n hx)
    exact ⟨sl',e2⟩
  · obtain ⟨o',e1⟩:=I.base.there b o e hx
    exact free b o' (neC b o e hx) e1 (I.base.free b o e n hx)
  · obtain ⟨o',e1⟩:=I.base.there b o e hx
    exact there b o' (neC b o e hx) e1
  · obtain ⟨m1,e1⟩:=I.base.tbls b ps e
    obtain ⟨m2,e2⟩:=tbls b _ e1
    exact ⟨m1++m2,by rw [e2,Array.append_assoc]⟩
  · obtain ⟨m,hn,hl⟩:=I.loc
    refine ⟨m,ns m hn,fun i x v e1 e2 e3=> ?_⟩
    obtain ⟨u,r,l⟩:=hl i x v e1 e2 e3
    refine ⟨u,r,?_⟩
    rcases l with l | ⟨k,c,e,z⟩
    · exact .inl l
    · exact .inr ⟨k,c,e,cellK x c e _ z⟩
  · obtain ⟨v,z⟩:=I.cell x c e
    exact ⟨v,cellK x c e v z⟩
  · obtain ⟨m,⟨o,_,_,ho,_⟩,_⟩:=I.loc
    exact free _ o (fun z=>(hch _ z).2.1 rfl) ho I.free
  · obtain ⟨v,o,ho,hd⟩:=I.cell x c e
    exact free c o (fun z=>(hch c z).2.2.1 x c e rfl) ho (I.freeC x c e)
  · obtain ⟨e,n,ne,nf,d⟩:=I.pin p hp
    have nch:p.1∉ch:=fun z=>(hch p.1 z).2.2.2 p hp rfl
    exact ⟨keep p.1 p.2 ne nf nch e n,free p.1 p.2 nch e n,ne,nf,d⟩
theorem Inv.un {t':Nat} (I:Inv X pins σ H s) (u:Un X.fs [] H H' s.heap h') (hok:HOk X.prog X.w H' h'):Inv X pins σ H' { s with heap:=h',toks:=t' }:=by
  obtain ⟨m,⟨o,es,ep,ho,r⟩,_⟩:=id I.loc
  obtain ⟨sl,hL⟩:=u.any ho I.free (by simp)
  exact I.step (g':=s.gens) (d':=s.drawn) (ch:=[]) (fun _ z=>nomatch z) (fun b o _ hb _ e n=>u.keep b o e n hb (by simp)) (fun b o _ hb _ e n=>u.slot b o e n hb (by simp)) (fun b o _ e n=>u.free b o e n (by simp)) (fun b o _ e=>u.there b o e (by simp)) u.tups u.frzs u.tbls (fun m' hm=>by
    obtain ⟨o',es',ep',ho',r'⟩:=hm
    rw [ho] at ho';cases ho'
    exact ⟨_,es',ep',hL,r'⟩) hok I.bare
theorem Inv.call {g':Array GenState} {t':Nat} {d':Drawn} {ch:List Addr} (I:Inv X pins σ H s) (u:Un (frs X.stack) ch H H' s.heap h') (hok:HOk X.prog X.w H' h') (hg:AllBare g')
    (hch:∀ b∈ch,(b∈X.ex∨X.s₀.heap.objs.size≤b)∧b≠X.env.locals∧(∀ x c,X.env.cells.lookup x=some c→c≠b)∧∀ p∈X.pn++pins,p.1≠b):
    Inv X pins σ H' { s with heap:=h',gens:=g',drawn:=d',toks:=t' }:=by
  obtain ⟨m,⟨o,es,ep,ho,r⟩,_⟩:=id I.loc
  obtain ⟨sl,hL⟩:=u.any ho I.free fun z=>(hch _ z).2.1 rfl
  exact I.step (ch:=ch) hch (fun b o hL hb hc e n=>u.keep b o e n (fun z=>(List.mem_cons.mp (I.stkSub b z)).elim hL hb) hc) (fun b o _ _ hc e n=>u.any e n hc) (fun b o hc e n=>u.free b o e n hc) (fun b o hc e=>u.there b o e hc) u.tups u.frzs u.tbls (fun m' hm=>by
    obtain ⟨o',es',ep',ho',r'⟩:=hm
    rw [ho] at ho';cases ho'
    exact ⟨_,es',ep',hL,r'⟩) hok hg
theorem Inv.turned {t':Nat} {it:Addr} (I:Inv X pins σ H s) (k:∀ b o,b≠it→s.heap.get? b=some o→h'.get? b=some o) (hn:H it=none) (hL:it≠X.env.locals)
    (h1:it∈X.ex∨X.s₀.heap.objs.size≤it) (h2:∀ x c,X.env.cells.lookup x=some c→c≠it) (h3:∀ p∈X.pn++pins,p.1≠it):Inv X pins σ H { s with heap:=h',toks:=t' }:=by
  have nit:∀ b u,H b=some u→b≠it:=fun b u e z=>by rw [z,hn] at e;cases e
  refine I.step (g':=s.gens) (d':=s.drawn) (ch:=[it]) (fun b hb=> ?_) (fun b o _ _ hc e _=>k b o (fun z=>hc (by simp [z])) e) (fun b o _ _ hc e _=>⟨o.slots,k b o (fun z=>hc (by simp [z])) e⟩) (fun _ _ _ _ n=>n)
    (fun b o hc e=>⟨o,k b o (fun z=>hc (by simp [z])) e⟩) (fun _ _ e=>e) (fun _ _ _ e=>e) (fun b ps e=>⟨#[],by rw [e];simp⟩) (fun m hm=> ?_) (fun b u e=> ?_) I.bare
  · have e:b=it:=by simpa using hb
    subst e
    exact ⟨h1,hL,h2,h3⟩
  · obtain ⟨o,es,ep,ho,r⟩:=hm
    exact ⟨o,es,ep,k _ o (Ne.symm hL) ho,r⟩
  · refine (I.hok b u e).stay (fun c v hc q=>k c v ?_ q) (fun _ q=>q) fun _ _ q=>q
    rcases hc with z | z
    · rw [z];exact nit b u e
    · exact nit c _ z
theorem Inv.tok (I:Inv X pins σ H s) (t:Nat):Inv X pins σ H { s with toks:=t }:=I.un (h':=s.heap) (t':=t) Un.refl I.hok
theorem Inv.kept {t':Nat} (I:Inv X pins σ H s) (k:∀ b u,s.heap.get? b=some u→h'.get? b=some u):Inv X pins σ H { s with heap:=h',toks:=t' }:=I.un (Un.kept k) (I.hok.kept k)
theorem Inv.laid {a:Addr} {o:HO} {t':Nat} (I:Inv X pins σ H s) (k:∀ b u,s.heap.get? b=some u→h'.get? b=some u) (hp:s.heap.objs.size≤a) (new:ObjOk X.prog X.w (upd H a o) h' a o):
    Inv X pins σ (upd H a o) { s with heap:=h',toks:=t' }:=I.un (Un.laid k hp (I.hok.fresh hp)) (I.hok.laid k hp new)
theorem Inv.write {x e:Addr} {o:HO} {t':Nat} (I:Inv X pins σ H s) (mu:Mut (H x)) (he:e=x∨H e=some (.own x)) (k:∀ b u,b≠e→s.heap.get? b=some u→h'.get? b=some u) (heo:∃ u,h'.get? e=some u)
    (new:ObjOk X.prog X.w (upd H x o) h' x o):Inv X pins σ (upd H x o) { s with heap:=h',toks:=t' }:=I.un (Un.write mu he k heo) (I.hok.write mu he k heo new)
theorem Inv.weak {σ':List (Option V)} (I:Inv X pins σ H s) (hl:σ'.length=σ.length) (w:∀ (i:Nat) v,σ'[i]?=some (some v)→σ[i]?=some (some v)):Inv X pins σ' H s:=
  ⟨I.ok,I.os,I.bare,I.base,let ⟨m,hn,hl'⟩:=I.loc;⟨m,hn,fun i x v e1 e2 e3=>hl' i x v e1 (w i v e2) e3⟩,I.cell,I.free,I.freeC,I.pin,I.hok,hl.trans I.len⟩
theorem Inv.pins_of {pins':List (Addr × Obj)} (I:Inv X pins σ H s) (h:∀ p∈pins',s.heap.get? p.1=some p.2∧H p.1=none∧p.1≠X.env.locals∧p.1∉X.fs∧∀ v,p.2.data≠ .cell v):Inv X pins' σ H s:=
  ⟨I.ok,I.os,I.bare,I.base,I.loc,I.cell,I.free,I.freeC,fun p hp=>(List.mem_append.mp hp).elim (fun z=>I.pin p (List.mem_append_left _ z)) (h p),I.hok,I.len⟩
theorem nodup_ix {N:List Str} (hN:N.Nodup) {i j:Nat} {x:Str} (a:N[i]?=some x) (b:N[j]?=some x):i=j:=by
  obtain ⟨h1,e1⟩:=List.getElem?_eq_some_iff.mp a
  obtain ⟨h2,e2⟩:=List.getElem?_eq_some_iff.mp b
  exact (List.getElem_inj hN).mp (e1.trans e2.symm)
theorem store_ok2 {M:Model} {A:Around} {E:Value→Shared→Prop} {i:Nat} {x:Str} {v:V} {u:Value} {Q:Unit→Shared→Prop} (I:Inv X pins σ H s) (hN:X.N.Nodup) (hi:X.N[i]?=some x) (hx:Loc X.env.scope x) (r:RelV v u)
    (h:∀ s',Inv X pins (σ.set i (some v)) H s'→(∃ a,Heap.SameBut a s.heap s'.heap∧(a=X.env.locals∨X.env.cells.lookup x=some a))→Q () s') (hf:X.fn x=true∨X.env.scope.names.lookup x=some .local:=by first | exact .inl rfl | exact .inr rfl | assumption):wpAny M A (storeName X.env x u) Q E s:=by
  obtain ⟨m,hn,hl⟩:=id I.loc
  have hcls:(X.env.scope.kind == .class||(X.env.scope.kind == .module&&X.env.locals != X.env.globals))=false:=by rw [I.ok.kind];rfl
  have hiσ:i<σ.length:=by rw [I.len];exact (List.getElem?_eq_some_iff.mp hi).1
  have cne:=I.cne
  have tracked:∀ {a:Addr} {h':Heap},(∃ o,s.heap.get? a=some o∧H a=none)→Heap.SameBut a s.heap h'→HOk X.prog X.w H h':=fun {a h'} ha hs b ob e=>by
    obtain ⟨_,_,hfree⟩:=ha
    refine (I.hok b ob e).stay (fun c w' hc q=>(hs.2 c ?_).trans q) (fun _ q=>q) fun _ _ q=>q
    rintro rfl
    rcases hc with rfl | hc
    · rw [hfree] at e;cases e
    · rw [hfree] at hc;cases hc
  rcases hx with hk | hk
  · refine wpAny_storeName_local hk hn (fun h' hn' hs=> ?_) hcls
    obtain ⟨oL,_,_,hoL,_⟩:=id hn
    refine h _ ⟨I.ok,I.os,I.bare,⟨fun b o e n hb hx=> ?_,fun b o e n hb hx=> ?_,I.base.free,fun b o e hx=> ?_,I.base.tups,I.base.frzs,I.base.tbls⟩,⟨_,hn',fun j y v' e1 e2 e3=> ?_⟩,fun y c e=> ?_,I.free,I.freeC,fun p hp=> ?_,tracked ⟨oL,hoL,I.free⟩ hs,by simpa using I.len⟩ ⟨_,hs, .inl rfl⟩
    · exact (hs.2 b (Nat.ne_of_lt (Nat.lt_of_lt_of_le (Heap.lt_size e) I.ok.above))).trans (I.base.keep b o e n hb hx)
    · obtain ⟨sl,e1⟩:=I.base.slot b o e n hb hx
      exact ⟨sl,(hs.2 b (Nat.ne_of_lt (Nat.lt_of_lt_of_le (Heap.lt_size e) I.ok.above))).trans e1⟩
    · obtain ⟨o',e1⟩:=I.base.there b o e hx
      exact ⟨o',(hs.2 b (Nat.ne_of_lt (Nat.lt_of_lt_of_le (Heap.lt_size e) I.ok.above))).trans e1⟩
    · by_cases hj:j=i
      · subst hj
        rw [hi] at e1;cases e1
        rw [List.getElem?_set_self hiσ] at e2
        cases e2
        exact ⟨u,r, .inl ⟨hk,by simp⟩⟩
      · rw [List.getElem?_set_ne (Ne.symm hj)] at e2
        obtain ⟨u',r',q⟩:=hl j y v' e1 e2 e3
        refine ⟨u',r',?_⟩
        rcases q with ⟨k,e⟩ | ⟨k,c,e,z⟩
        · refine .inl ⟨k,?_⟩
          have:y≠x:=fun e=>hj (nodup_ix hN e1 (e▸hi))
          simp [this,e]
        · exact .inr ⟨k,c,e,z.sameBut hs (cne y c e)⟩
    · obtain ⟨w',z⟩:=I.cell y c e
      exact ⟨w',z.sameBut hs (cne y c e)⟩
    · obtain ⟨e,n,ne,nf,d⟩:=I.pin p hp
      exact ⟨(hs.2 p.1 ne).trans e,n,ne,nf,d⟩
  · have hfn:X.fn x=true:=by
      rcases hf with z | z
      · exact z
      · rw [z] at hk;cases hk
    obtain ⟨c,hc⟩:=I.ok.has x (.inl hk)
    obtain ⟨w',z⟩:=I.cell x c hc
    refine wpAny_storeName_cell I.ok.kind hk hc z (fun h' hc' hs=> ?_)
    obtain ⟨oc,hoc,hocd⟩:=id z
    refine h { s with heap:=h' } ⟨I.ok,I.os,I.bare,⟨fun b o e n hb hx=> ?_,fun b o e n hb hx=> ?_,I.base.free,fun b o e hx=> ?_,I.base.tups,I.base.frzs,I.base.tbls⟩,⟨m,hn.sameBut hs (Ne.symm (cne x c hc)),fun j y v' e1 e2 e3=> ?_⟩,fun y c' e=> ?_,I.free,I.freeC,fun p hp=> ?_,tracked ⟨oc,hoc,I.freeC x c hc⟩ hs,by simpa using I.len⟩ ⟨c,hs, .inr hc⟩
    · exact (hs.2 b (Nat.ne_of_lt (Nat.lt_of_lt_of_le (Heap.lt_size e) (I.ok.cab x c hfn hc)))).trans (I.base.keep b o e n hb hx)
    · obtain ⟨sl,e1⟩:=I.base.slot b o e n hb hx
      exact ⟨sl,(hs.2 b (Nat.ne_of_lt (Nat.lt_of_lt_of_le (Heap.lt_size e) (I.ok.cab x c hfn hc)))).trans e1⟩
    · obtain ⟨o',e1⟩:=I.base.there b o e hx
      exact ⟨o',(hs.2 b (Nat.ne_of_lt (Nat.lt_of_lt_of_le (Heap.lt_size e) (I.ok.cab x c hfn hc)))).trans e1⟩
    · by_cases hj:j=i
      · subst hj
        rw [hi] at e1;cases e1
        rw [List.getElem?_set_self hiσ] at e2
        cases e2
        exact ⟨u,r, .inr ⟨.inl hk,c,hc,hc'⟩⟩
      · rw [List.getElem?_set_ne (Ne.symm hj)] at e2
        obtain ⟨u',r',q⟩:=hl j y v' e1 e2 e3
        refine ⟨u',r',?_⟩
        rcases q with q | ⟨k,c',e,z'⟩
        · exact .inl q
        · refine .inr ⟨k,c',e,z'.sameBut hs ?_⟩
          rintro rfl
          exact hj (nodup_ix hN e1 (I.ok.inj _ _ _ e hc▸hi))
    · by_cases hcc:c'=c
      · subst hcc;exact ⟨_,hc'⟩
      · obtain ⟨w2,z2⟩:=I.cell y c' e
        exact ⟨w2,z2.sameBut hs hcc⟩
    · obtain ⟨e,n,ne,nf,d⟩:=I.pin p hp
      refine ⟨(hs.2 p.1 ?_).trans e,n,ne,nf,d⟩
      intro q
      rw [q,hoc] at e
      have q':oc=p.2:=Option.some.inj e
      exact d w' (by rw [← q'];exact hocd)
theorem store_ok {M:Model} {A:Around} {E:Value→Shared→Prop} {i:Nat} {x:Str} {v:V} {u:Value} {Q:Unit→Shared→Prop} (I:Inv X pins σ H s) (hN:X.N.Nodup) (hi:X.N[i]?=some x) (hx:Loc X.env.scope x) (r:RelV v u)
    (h:∀ s',Inv X pins (σ.set i (some v)) H s'→Q () s') (hf:X.fn x=true∨X.env.scope.names.lookup x=some .local:=by first | exact .inl rfl | exact .inr rfl | assumption):wpAny M A (storeName X.env x u) Q E s:=
  store_ok2 I hN hi hx r (fun s' I' _=>h s' I') hf
theorem Inv.call' {s':Shared} {ch:List Addr} (I:Inv X pins σ H s) (ho:s'.os=s.os) (u:Un (frs X.stack) ch H H' s.heap s'.heap) (hok:HOk X.prog X.w H' s'.heap) (hg:AllBare s'.gens)
    (hch:∀ b∈ch,(b∈X.ex∨X.s₀.heap.objs.size≤b)∧b≠X.env.locals∧(∀ x c,X.env.cells.lookup x=some c→c≠b)∧∀ p∈X.pn++pins,p.1≠b):Inv X pins σ H' s':=by
  obtain ⟨h',g',d',t',o'⟩:=s'
  have e:o'=s.os:=ho
  subst e
  exact I.call (g':=g') (t':=t') (d':=d') u hok hg hch
end
noncomputable abbrev XK:=Value→Option Addr→Hp→Prop
noncomputable abbrev St:=List (Option V)
noncomputable abbrev VK:=V→Hp→Prop
noncomputable abbrev TE:=St→Hp→VK→Prop
noncomputable abbrev TT:=St→Hp→(Bool→Hp→Prop)→Prop
noncomputable abbrev TA:=St→Hp→(List V→Hp→Prop)→Prop
structure Ends where
  nx:St→Hp→Prop
  rt:VK
  bk:St→Hp→Prop:=fun _ _=>False
  ct:St→Hp→Prop:=fun _ _=>False
noncomputable abbrev TS:=Ends→St→Hp→Prop
noncomputable def EP (X:Cx) (pins:List (Addr × Obj)) (σ:St) (Q:VK) (u:Value) (s':Shared):Prop:=∃ v H',Inv X pins σ H' s'∧RelV v u∧Q v H'
noncomputable def TP (X:Cx) (pins:List (Addr × Obj)) (σ:St) (Q:Bool→Hp→Prop) (b:Bool) (s':Shared):Prop:=∃ H',Inv X pins σ H' s'∧Q b H'
noncomputable def AP (X:Cx) (pins:List (Addr × Obj)) (σ:St) (Q:List V→Hp→Prop) (us:List Value) (s':Shared):Prop:=∃ vs H',Inv X pins σ H' s'∧Vals vs us∧Q vs H'
noncomputable def SP (X:Cx) (pins:List (Addr × Obj)) (D:Ends) (f:Flow) (s':Shared):Prop:=
  match f with
  | .next=>∃ σ' H',Inv X pins σ' H' s'∧D.nx σ' H'
  | .brk=>∃ σ' H',Inv X pins σ' H' s'∧D.bk σ' H'
  | .cont=>∃ σ' H',Inv X pins σ' H' s'∧D.ct σ' H'
  | .ret u=>∃ v σ' H',Inv X pins σ' H' s'∧RelV v u∧D.rt v H'
noncomputable def PE (X:Cx) (e:Expr) (t:TE):Prop:=
  ∀ (pins:List (Addr × Obj)) (s:Shared) (σ:St) (H:Hp) (Q:VK),Inv X pins σ H s→t σ H Q→wpAny (model X.prog X.w) X.A (eval e X.env) (EP X pins σ Q) X.xe s
noncomputable def PT (X:Cx) (e:Expr) (t:TT):Prop:=
  ∀ (pins:List (Addr × Obj)) (s:Shared) (σ:St) (H:Hp) (Q:Bool→Hp→Prop),Inv X pins σ H s→t σ H Q→wpAny (model X.prog X.w) X.A (isTrue e X.env (eval e X.env)) (TP X pins σ Q) X.xe s
noncomputable def PW (X:Cx) (e:Expr) (t:TT):Prop:=
  ∀ (whole:Sem Value) (pins:List (Addr × Obj)) (s:Shared) (σ:St) (H:Hp) (Q:Bool→Hp→Prop),Inv X pins σ H s→t σ H Q→wpAny (model X.prog X.w) X.A (isTrue e X.env whole) (TP X pins σ Q) X.xe s
theorem PW.pt {X:Cx} {e:Expr} {t:TT} (h:PW X e t):PT X e t:=h _
noncomputable def PA (X:Cx) (es:List Expr) (t:TA):Prop:=
  ∀ (pos:Pos) (pins:List (Addr × Obj)) (s:Shared) (σ:St) (H:Hp) (Q:List V→Hp→Prop),Inv X pins σ H s→t σ H Q→wpAny (model X.prog X.w) X.A (spliced (backTo pos (starEach es X.env))) (AP X pins σ Q) X.xe s
noncomputable def PS (X:Cx) (st:Stmt) (t:TS):Prop:=
  ∀ (pins:List (Addr × Obj)) (s:Shared) (σ:St) (H:Hp) (D:Ends),Inv X pins σ H s→t D σ H→wpAny (model X.prog X.w) X.A (exec st X.env) (SP X pins D) X.xe s
noncomputable def PSs (X:Cx) (st:List Stmt) (t:TS):Prop:=
  ∀ (pins:List (Addr × Obj)) (s:Shared) (σ:St) (H:Hp) (D:Ends),Inv X pins σ H s→t D σ H→wpAny (model X.prog X.w) X.A (execs st X.env) (SP X pins D) X.xe s
theorem thn {α:Type} {t:Sem α} {Q Q':α→Shared→Prop} {M:Model} {A:Around} {E:Value→Shared→Prop} {s:Shared} (h:wpAny M A t Q E s) (hQ:∀ a s,Q a s→Q' a s):wpAny M A t Q' E s:=wpAny_mono h hQ fun _ _ x=>x
end L2
namespace L2
open PySem PySem.Spec PyProof.Rows
section
variable {X:Cx}
theorem bin {a b:Expr} {ta tb:TE} (ha:PE X a ta) (hb:PE X b tb) {pins:List (Addr × Obj)} {s:Shared} {σ:St} {H:Hp} {R:V→V→Hp→Prop} (I:Inv X pins σ H s) (h:ta σ H fun x H1=>tb σ H1 fun y H2=>R x y H2)
    {α:Type} {Q:α→Shared→Prop} {f:Value→Value→Sem α}
    (hf:∀ v u s2 x y H2,Inv X pins σ H2 s2→RelV x v→RelV y u→R x y H2→wpAny (model X.prog X.w) X.A (f v u) Q X.xe s2):
    wpAny (model X.prog X.w) X.A (eval a X.env) (fun v s₁=>wpAny (model X.prog X.w) X.A (eval b X.env) (fun u s₂=>wpAny (model X.prog X.w) X.A (f v u) Q X.xe s₂) X.xe s₁) X.xe s:=by
  refine thn (ha pins s σ H _ I h) fun v s1 ⟨x,H1,I1,r1,q1⟩=> ?_
  refine thn (hb pins s1 σ H1 _ I1 q1) fun u s2 ⟨y,H2,I2,r2,q2⟩=> ?_
  exact hf v u s2 x y H2 I2 r1 r2 q2
noncomputable def tVar (i:Nat):TE:=fun σ H Q=>∃ v,σ[i]?=some (some v)∧Q v H
noncomputable def tC (v:V):TE:=fun _ H Q=>Q v H
theorem pe_var {i:Nat} {x:Str} {pos:Pos} (hN:X.N[i]?=some x) (hv:Vis X.env.scope x) (hd:(x == ("__debug__":Str))=false:=by decide) (hcd:(x == ("__classdict__":Str))=false:=by decide):PE X (.Name x pos) (tVar i):=by
  intro pins s σ H Q I h
  obtain ⟨v,e,h⟩:=h
  obtain ⟨m,hn,hl⟩:=I.loc
  obtain ⟨u,r,l⟩:=hl i x v hN e hv
  have fin:EP X pins σ Q u s:=⟨v,H,I,r,h⟩
  rcases l with ⟨hk,hm⟩ | ⟨hk,c,hc,hcell⟩
  · exact wpAny_Name (wpAny_loadName_local I.ok.kind hk hn hm fin) hd
  · rcases hk with hk | hk
    · exact wpAny_Name (wpAny_loadName_cell I.ok.kind hk hc hcell fin) hd
    · exact wpAny_Name (wpAny_loadName_free I.ok.kind hk hc hcell fin hcd) hd
theorem pe_int {i j pos}:PE X (.Constant (.int i) j pos) (tC (.int i)):=fun _ _ _ H _ I h=>wpAny_Constant_int ⟨.int i,H,I.tok _,⟨_,rfl⟩,h⟩
theorem pe_bl {b j pos}:PE X (.Constant (.bool b) j pos) (tC (.bl b)):=fun _ _ _ H _ I h=>Constant_bool ⟨.bl b,H,I,rfl,h⟩
theorem pe_non {j pos}:PE X (.Constant .none j pos) (tC .non):=fun _ _ _ H _ I h=>Constant_none ⟨.non,H,I,rfl,h⟩
theorem pe_str {x j pos}:PE X (.Constant (.str x) j pos) (tC (.str x)):=fun _ _ _ H _ I h=>Calls.Constant_str ⟨.str x,H,I.tok _,⟨_,rfl⟩,h⟩
noncomputable def Gl (X:Cx) (x:Str):Prop:=X.env.kindOf x=some .globalImplicit
theorem ld_glob {E:Value→Shared→Prop} {pins:List (Addr × Obj)} {s:Shared} {σ:St} {H:Hp} {x:Str} {u:Value} {pos:Pos} {Q:Value→Shared→Prop} (I:Inv X pins σ H s) (hg:Gl X x) (hm:X.mg x=some u) (h:Q u s)
    (hd:(x == ("__debug__":Str))=false:=by decide):wpAny (model X.prog X.w) X.A (eval (.Name x pos) X.env) Q E s:=
  Calls.Name_function_global I.ok.kind hg (Calls.loadGlobal_global (by rw [I.ok.glob];exact I.mod.glob.keeps I.bk) hm h) hd
theorem ld_blt {E:Value→Shared→Prop} {pins:List (Addr × Obj)} {s:Shared} {σ:St} {H:Hp} {x:Str} {u:Value} {pos:Pos} {Q:Value→Shared→Prop} (I:Inv X pins σ H s) (hg:Gl X x) (hm:X.mg x=none) (hv:bootBuiltins x=some u) (h:Q u s)
    (hn:x≠"__name__":=by decide) (hd:(x == ("__debug__":Str))=false:=by decide):wpAny (model X.prog X.w) X.A (eval (.Name x pos) X.env) Q E s:=by
  obtain ⟨mb,h1,h2⟩:=I.mod.blt
  exact Calls.Name_function_global I.ok.kind hg (Calls.loadGlobal_builtin (by rw [I.ok.glob];exact I.mod.glob.keeps I.bk) hm (by rw [I.ok.blt];exact h1.keeps I.bk) ((h2 x hn).trans hv) h) hd
theorem pe_glob {x:Str} {v:V} {u:Value} {pos:Pos} (hg:Gl X x) (hm:X.mg x=some u) (r:RelV v u) (hd:(x == ("__debug__":Str))=false:=by decide):PE X (.Name x pos) (tC v):=
  fun _ _ _ H _ I h=>ld_glob I hg hm ⟨v,H,I,r,h⟩ hd
theorem pe_bltn {x:Str} {v:V} {u:Value} {pos:Pos} (hg:Gl X x) (hm:X.mg x=none) (hv:bootBuiltins x=some u) (r:RelV v u) (hn:x≠"__name__":=by decide) (hd:(x == ("__debug__":Str))=false:=by decide):PE X (.Name x pos) (tC v):=
  fun _ _ _ H _ I h=>ld_blt I hg hm hv ⟨v,H,I,r,h⟩ hn hd
variable {a b:Expr} {ta tb:TE} {pos:Pos}
noncomputable def PC (X:Cx) (op:CmpOp) (a b:Expr) (t:TE):Prop:=
  ∀ (pins:List (Addr × Obj)) (s:Shared) (σ:St) (H:Hp) (Q:VK),Inv X pins σ H s→t σ H Q→
    wpAny (model X.prog X.w) X.A (eval a X.env) (fun v s₁=>wpAny (model X.prog X.w) X.A (eval b X.env) (fun u s₂=>wpAny (model X.prog X.w) X.A (compareOp op v u) (EP X pins σ Q) X.xe s₂) X.xe s₁) X.xe s
theorem nobehind (b:Expr) {op:CmpOp} (h:op≠ .In) (h2:op≠ .NotIn):behindInMarks op b=false:=by
  have e1:(op == CmpOp.In)=false:=by cases op <;> first | rfl | exact absurd rfl h
  have e2:(op == CmpOp.NotIn)=false:=by cases op <;> first | rfl | exact absurd rfl h2
  cases b <;> simp [behindInMarks,e1,e2]
noncomputable def tB (t:TE):TT:=fun σ H Q=>t σ H fun x H1=>∃ c,x= .bl c∧Q c H1
theorem pt_cmp {op:CmpOp} {t:TE} (h:PC X op a b t) (h1:behindInMarks op b=false:=by first | exact nobehind _ (by decide) (by decide) | rfl):PT X (.Compare a [op] [b] pos) (tB t):=by
  intro pins s σ H Q I hw
  refine wpAny_isTrue_Compare1 (thn (h pins s σ H _ I hw) fun v s1 h1=>thn h1 fun u s2 h2=>thn h2 fun c s3 ⟨x,H1,I1,r1,q1⟩=> ?_) h1
  obtain ⟨d,rfl,q⟩:=q1
  cases r1
  exact wpAny_truthy_bool ⟨H1,I1,q⟩
theorem pt_val {e:Expr} {t:TE} (h:PE X e t) (he:∀ whole,isTrue e X.env whole=(do let v ← whole;standAt e.pos;holding [v] (truthy v)):=by intro _;rfl):PT X e (tB t):=by
  intro pins s σ H Q I hw
  refine isTrue_plain (thn (h pins s σ H _ I hw) fun v s1 ⟨x,H1,I1,r1,q1⟩=> ?_) (he _)
  obtain ⟨d,rfl,q⟩:=q1
  cases r1
  exact wpAny_truthy_bool ⟨H1,I1,q⟩
variable {tA tB':TT} {rest:List Expr}
noncomputable def tAnd (t u:TT):TT:=fun σ H Q=>t σ H fun c H1=>if c=true then u σ H1 Q else Q false H1
noncomputable def tOr (t u:TT):TT:=fun σ H Q=>t σ H fun c H1=>if c=true then Q true H1 else u σ H1 Q
noncomputable def tNot (t:TT):TT:=fun σ H Q=>t σ H fun c H1=>Q (!c) H1
theorem pw_and1 (ha:PT X a tA):PW X (.BoolOp .And [a] pos) tA:=by
  intro wh pins s σ H Q I h
  refine isTrue_and (thn (ha pins s σ H Q I h) fun c s1 e=> ?_)
  cases c with
  | true=>exact isTrue_and_nil e
  | false=>exact e
theorem pw_or1 (ha:PT X a tA):PW X (.BoolOp .Or [a] pos) tA:=by
  intro wh pins s σ H Q I h
  refine isTrue_or (thn (ha pins s σ H Q I h) fun c s1 e=> ?_)
  cases c with
  | false=>exact isTrue_or_nil e
  | true=>exact e
theorem pw_and (ha:PT X a tA) (hb:PW X (.BoolOp .And (b::rest) pos) tB'):PW X (.BoolOp .And (a::b::rest) pos) (tAnd tA tB'):=by
  intro wh pins s σ H Q I h
  refine isTrue_and (thn (ha pins s σ H _ I h) fun c s1 ⟨H1,I1,q1⟩=> ?_)
  cases c with
  | true=>exact hb wh pins s1 σ H1 Q I1 q1
  | false=>exact ⟨H1,I1,q1⟩
theorem pw_or (ha:PT X a tA) (hb:PW X (.BoolOp .Or (b::rest) pos) tB'):PW X (.BoolOp .Or (a::b::rest) pos) (tOr tA tB'):=by
  intro wh pins s σ H Q I h
  refine isTrue_or (thn (ha pins s σ H _ I h) fun c s1 ⟨H1,I1,q1⟩=> ?_)
  cases c with
  | true=>exact ⟨H1,I1,q1⟩
  | false=>exact hb wh pins s1 σ H1 Q I1 q1
theorem pt_not (ha:PT X a tA):PT X (.UnaryOp .Not a pos) (tNot tA):=by
  intro pins s σ H Q I h
  exact isTrue_not (ha pins s σ H (fun c H1=>Q (!c) H1) I h)
noncomputable def tAndV (ta tb:TE):TE:=fun σ H Q=>ta σ H fun x H1=>∃ c,x= .bl c∧if c=true then tb σ H1 Q else Q (.bl false) H1
noncomputable def tNotV (ta:TE):TE:=fun σ H Q=>ta σ H fun x H1=>∃ c,x= .bl c∧Q (.bl (!c)) H1
theorem pe_one {op} {t:TE} (h:PE X a t):PE X (.BoolOp op [a] pos) t:=fun pins s σ H Q I hw=>BoolOp_one (h pins s σ H Q I hw)
theorem pe_and (ha:PE X a ta) (hb:PE X (.BoolOp .And (b::rest) pos) tb):PE X (.BoolOp .And (a::b::rest) pos) (tAndV ta tb):=by
  intro pins s σ H Q I h
  refine BoolOp_and (thn (ha pins s σ H _ I h) fun v s1 ⟨x,H1,I1,r1,q1⟩=> ?_)
  obtain ⟨c,rfl,q1⟩:=q1
  cases r1
  refine wpAny_truthy_bool ?_
  cases c with
  | true=>exact hb pins s1 σ H1 Q I1 q1
  | false=>exact ⟨.bl false,H1,I1,rfl,q1⟩
theorem pe_not (ha:PE X a ta):PE X (.UnaryOp .Not a pos) (tNotV ta):=by
  intro pins s σ H Q I h
  refine UnaryOp_ (thn (ha pins s σ H _ I h) fun v s1 ⟨x,H1,I1,r1,q1⟩=> ?_)
  obtain ⟨c,rfl,q1⟩:=q1
  cases r1
  exact not_of (wpAny_truthy_bool ⟨.bl (!c),H1,I1,rfl,q1⟩)
noncomputable def tIf (t:TT) (ta tb:TE):TE:=fun σ H Q=>t σ H fun c H1=>if c=true then ta σ H1 Q else tb σ H1 Q
theorem pe_ifExp {c:Expr} (hc:PT X c tA) (ha:PE X a ta) (hb:PE X b tb):PE X (.IfExp c a b pos) (tIf tA ta tb):=by
  intro pins s σ H Q I h
  refine wpAny_IfExp (thn (hc pins s σ H _ I h) fun d s1 ⟨H1,I1,q1⟩=> ?_)
  cases d with
  | true=>exact ha pins s1 σ H1 Q I1 q1
  | false=>exact hb pins s1 σ H1 Q I1 q1
end
end L2
namespace L2
open PySem PySem.Spec PyProof.Rows
noncomputable def SqL (K:PySem.W.Frag) (H:Hp) (a:Addr) (xs:List V):Prop:=
  Rd H a (.lst xs)∨
    ∃ (o:Obj) (its:Array Value) (n:Nat),K.lookup a=some o∧o.cls= .type "list"∧o.dict=none∧o.data= .seq its n∧its.size≤sizeLine∧Vals xs its.toList
noncomputable def SqT (K:PySem.W.Frag) (H:Hp) (a:Addr) (xs:List V):Prop:=
  Rd H a (.tup xs)∨
    ∃ (o:Obj) (its:Array Value) (n:Nat),K.lookup a=some o∧o.cls= .type "tuple"∧o.data= .seq its n∧its.size≤sizeLine∧Vals xs its.toList
noncomputable def absV:Value→Option V
  | .none=>some .non
  | .bool b=>some (.bl b)
  | .int i _=>some (.int i)
  | .str x _=>some (.str x)
  | .bytes b _=>some (.byt b)
  | .float b _=>some (.flt b)
  | .ref a=>some (.ref a)
  | .type n=>some (.ty n)
  | _=>none
theorem RelV.abs {x:V} {u:Value} (r:RelV x u):absV u=some x:=by
  cases x with
  | non=>cases r;rfl
  | bl _=>cases r;rfl
  | int _=>obtain ⟨t,rfl⟩:=r;rfl
  | str _=>obtain ⟨t,rfl⟩:=r;rfl
  | byt _=>obtain ⟨t,rfl⟩:=r;rfl
  | flt _=>obtain ⟨t,rfl⟩:=r;rfl
  | ref _=>cases r;rfl
  | ty _=>cases r;rfl
theorem RelV.inj {x y:V} {u:Value} (r:RelV x u) (q:RelV y u):x=y:=Option.some.inj (r.abs.symm.trans q.abs)
theorem Vals.inj:∀ {xs ys:List V} {us:List Value},Vals xs us→Vals ys us→xs=ys
  | _,_,_, .nil, .nil=>rfl
  | _,_,_, .cons r t, .cons r' t'=>by rw [r.inj r',Vals.inj t t']
section
variable {X:Cx} {pins:List (Addr × Obj)} {σ:St} {H:Hp} {s:Shared} {a:Addr} {xs ys:List V}
theorem SqL.of {K:PySem.W.Frag} (h:H a=some (.lst xs)):SqL K H a xs:= .inl (.inl h)
theorem SqT.of {K:PySem.W.Frag} (h:H a=some (.tup xs)):SqT K H a xs:= .inl (.inl h)
theorem Inv.list (I:Inv X pins σ H s) (h:SqL X.K H a xs):∃ its:List Value,Vals xs its∧PlainL s.heap a its.toArray∧xs.length≤sizeLine:=by
  rcases h with h | ⟨o,its,n,hk,hc,hd,hs,hz,r⟩
  · obtain ⟨z,its,n,r,e⟩:=h.ok I.hok
    exact ⟨its,r,⟨_,n,e,rfl,rfl,rfl⟩,z⟩
  · refine ⟨its.toList,r,⟨o,n,I.kIn a o hk,hc,hd,by simpa using hs⟩,?_⟩
    have e:=r.length
    simp only [Array.length_toList] at e
    omega
theorem Inv.tuple (I:Inv X pins σ H s) (h:SqT X.K H a xs):∃ its:List Value,Vals xs its∧IsTup s.heap a its.toArray∧xs.length≤sizeLine:=by
  rcases h with h | ⟨o,its,n,hk,hc,hs,hz,r⟩
  · obtain ⟨z,its,r,p⟩:=h.ok I.hok
    exact ⟨its,r,p,z⟩
  · refine ⟨its.toList,r,⟨o,I.kIn a o hk,hc,n,by simpa using hs⟩,?_⟩
    have e:=r.length
    simp only [Array.length_toList] at e
    omega
theorem Inv.list_inj (I:Inv X pins σ H s) (h:SqL X.K H a xs) (h':SqL X.K H a ys):xs=ys:=by
  obtain ⟨its,r,⟨o,n,e,_,_,d⟩,_⟩:=I.list h
  obtain ⟨its',r',⟨o',n',e',_,_,d'⟩,_⟩:=I.list h'
  rw [e] at e';cases e'
  rw [d] at d'
  injection d' with d1 _
  have:its=its':=by simpa using congrArg Array.toList d1
  subst this
  exact r.inj r'
theorem Inv.tuple_inj (I:Inv X pins σ H s) (h:SqT X.K H a xs) (h':SqT X.K H a ys):xs=ys:=by
  obtain ⟨its,r,⟨o,e,_,n,d⟩,_⟩:=I.tuple h
  obtain ⟨its',r',⟨o',e',_,n',d'⟩,_⟩:=I.tuple h'
  rw [e] at e';cases e'
  rw [d] at d'
  injection d' with d1 _
  have:its=its':=by simpa using congrArg Array.toList d1
  subst this
  exact r.inj r'
end
noncomputable abbrev Cx.wish (X:Cx) (E:Value→Shared→Prop):Cx:={ X with xe:=E }
noncomputable abbrev Cx.nox (X:Cx):Cx:=X.wish fun _ _=>False
theorem Cx.Ok.wish {X:Cx} (ok:X.Ok) (E:Value→Shared→Prop):(X.wish E).Ok:=
  ⟨ok.mod,ok.kind,ok.glob,ok.blt,ok.above,ok.inj,ok.has,ok.cab,ok.hd,ok.frames,ok.stk,ok.exf,ok.bs,ok.bsz,ok.noex,ok.exfs,ok.funs,ok.frf⟩
theorem Cx.Ok.unwish {X:Cx} {E:Value→Shared→Prop} (ok:(X.wish E).Ok):X.Ok:=
  ⟨ok.mod,ok.kind,ok.glob,ok.blt,ok.above,ok.inj,ok.has,ok.cab,ok.hd,ok.frames,ok.stk,ok.exf,ok.bs,ok.bsz,ok.noex,ok.exfs,ok.funs,ok.frf⟩
section
variable {X:Cx} {pins:List (Addr × Obj)} {σ:St} {H:Hp} {s:Shared} {E:Value→Shared→Prop}
theorem Inv.wish (I:Inv X pins σ H s) (E:Value→Shared→Prop):Inv (X.wish E) pins σ H s:=⟨I.ok.wish E,I.os,I.bare,I.base,I.loc,I.cell,I.free,I.freeC,I.pin,I.hok,I.len⟩
theorem Inv.unwish (I:Inv (X.wish E) pins σ H s):Inv X pins σ H s:=⟨I.ok.unwish,I.os,I.bare,I.base,I.loc,I.cell,I.free,I.freeC,I.pin,I.hok,I.len⟩
theorem SP.unwish {D:Ends} {f:Flow} {s':Shared} (h:SP (X.wish E) pins D f s'):SP X pins D f s':=by
  cases f with
  | next=>obtain ⟨σ',H',I,q⟩:=h;exact ⟨σ',H',I.unwish,q⟩
  | brk=>obtain ⟨σ',H',I,q⟩:=h;exact ⟨σ',H',I.unwish,q⟩
  | cont=>obtain ⟨σ',H',I,q⟩:=h;exact ⟨σ',H',I.unwish,q⟩
  | ret u=>obtain ⟨v,σ',H',I,r,q⟩:=h;exact ⟨v,σ',H',I.unwish,r,q⟩
theorem PSs.nox {st:List Stmt} {t:TS} (h:PSs X.nox st t):PSs X st t:=fun pins s σ H D I hw=>
  wpAny_mono (h pins s σ H D (I.wish _) hw) (fun _ _ q=>q.unwish) fun _ _ z=>False.elim z
end
section
variable {X:Cx} {st:Stmt} {rest:List Stmt} {t u:TS} {e:Expr} {te:TE} {pos:Pos}
noncomputable def tNext:TS:=fun D σ H=>D.nx σ H
noncomputable def tSeq (t u:TS):TS:=fun D σ H=>t { D with nx:=u D } σ H
theorem pss_nil:PSs X [] tNext:=fun _ _ σ H _ I h=>wpAny_execs_nil ⟨σ,H,I,h⟩
theorem pss_cons (h1:PS X st t) (h2:PSs X rest u):PSs X (st::rest) (tSeq t u):=by
  intro pins s σ H D I h
  refine wpAny_execs_cons (thn (h1 pins s σ H { D with nx:=u D } I h) fun f s1 q=> ?_)
  cases f with
  | next=>
    obtain ⟨σ',H',I',q⟩:=q
    exact h2 pins s1 σ' H' D I' q
  | ret v=>exact q
  | brk=>exact q
  | cont=>exact q
theorem pss_one (h1:PS X st t):PSs X [st] t:=by
  intro pins s σ H D I h
  refine wpAny_execs_cons (thn (h1 pins s σ H D I h) fun f s1 q=> ?_)
  cases f with
  | next=>exact wpAny_execs_nil q
  | ret v=>exact q
  | brk=>exact q
  | cont=>exact q
theorem Inv.quiet {pins:List (Addr × Obj)} {σ:St} {H:Hp} {s:Shared} (I:Inv X pins σ H s):interactive X.env=false:=by simp [interactive,I.ok.kind]
noncomputable def tDrop (te:TE):TS:=fun D σ H=>te σ H fun _ H1=>D.nx σ H1
theorem ps_expr (he:PE X e te) (hs:swapsWith e none pos.line X.env=pure false:=by rfl):PS X (.Expr e pos) (tDrop te):=by
  intro pins s σ H D I h
  exact wpAny_Expr_any (thn (he pins s σ H _ I h) fun v s1 ⟨x,H1,I1,r1,q1⟩=>⟨σ,H1,I1,q1⟩) I.quiet hs
noncomputable def tRet (te:TE):TS:=fun D σ H=>te σ H D.rt
theorem ps_ret (he:PE X e te):PS X (.Return (some e) pos) (tRet te):=by
  intro pins s σ H D I h
  exact wpAny_Return_some (thn (he pins s σ H _ I h) fun v s1 ⟨x,H1,I1,r1,q1⟩=>⟨x,σ,H1,I1,r1,q1⟩)
noncomputable def tIfS (c:TT) (t u:TS):TS:=fun D σ H=>c σ H fun b H1=>if b=true then t D σ H1 else u D σ H1
theorem ps_if {c:Expr} {a b:List Stmt} {tc:TT} (hc:PT X c tc) (ha:PSs X a t) (hb:PSs X b u):PS X (.If c a b pos) (tIfS tc t u):=by
  intro pins s σ H D I h
  refine wpAny_If (thn (hc pins s σ H _ I h) fun d s1 ⟨H1,I1,q1⟩=> ?_)
  cases d with
  | true=>exact ha pins s1 σ H1 D I1 q1
  | false=>exact hb pins s1 σ H1 D I1 q1
noncomputable def tNever:TS:=fun _ _ _=>False
theorem ps_never:PS X st tNever:=fun _ _ _ _ _ _ h=>h.elim
end
noncomputable abbrev TG:=V→St→Hp→(St→Hp→Prop)→Prop
noncomputable abbrev TGs:=List V→St→Hp→(St→Hp→Prop)→Prop
noncomputable def PG (X:Cx) (target:Expr) (t:TG):Prop:=
  ∀ (pins:List (Addr × Obj)) (s:Shared) (σ:St) (H:Hp) (v:V) (u:Value) (Q:St→Hp→Prop),Inv X pins σ H s→RelV v u→t v σ H Q→
    wpAny (model X.prog X.w) X.A (assign target X.env u) (fun _ s'=>∃ σ' H',Inv X pins σ' H' s'∧Q σ' H') X.xe s
noncomputable def PGs (X:Cx) (ts:List Expr) (t:TGs):Prop:=
  ∀ (pins:List (Addr × Obj)) (s:Shared) (σ:St) (H:Hp) (vs:List V) (us:List Value) (Q:St→Hp→Prop),Inv X pins σ H s→Vals vs us→t vs σ H Q→
    wpAny (model X.prog X.w) X.A (assignInOrder ((assignEach ts X.env).map (·.2)) us) (fun _ s'=>∃ σ' H',Inv X pins σ' H' s'∧Q σ' H') X.xe s
noncomputable abbrev TSet:=V→V→V→Hp→(Hp→Prop)→Prop
noncomputable def PSet (X:Cx) (t:TSet):Prop:=
  ∀ (pins:List (Addr × Obj)) (s:Shared) (σ:St) (H:Hp) (o i v:V) (ov iv u:Value) (Q:Hp→Prop),Inv X pins σ H s→RelV o ov→RelV i iv→RelV v u→t o i v H Q→
    wpAny (model X.prog X.w) X.A (setItem ov iv u) (fun _ s'=>∃ H',Inv X pins σ H' s'∧Q H') X.xe s
noncomputable abbrev TIp:=V→V→Hp→VK→Prop
noncomputable def PIp (X:Cx) (op:Operator) (t:TIp):Prop:=
  ∀ (pins:List (Addr × Obj)) (s:Shared) (σ:St) (H:Hp) (x y:V) (v u:Value) (Q:VK),Inv X pins σ H s→RelV x v→RelV y u→t x y H Q→
    wpAny (model X.prog X.w) X.A (inplaceOp op v u) (EP X pins σ Q) X.xe s
section
variable {X:Cx} {pos:Pos}
noncomputable def gName (i:Nat):TG:=fun v σ H Q=>Q (σ.set i (some v)) H
theorem pg_name {i:Nat} {x:Str} (hN:X.N.Nodup) (hi:X.N[i]?=some x) (hx:Loc X.env.scope x) (hf:X.fn x=true∨X.env.scope.names.lookup x=some .local:=by first | exact .inl rfl | exact .inr rfl | assumption):PG X (.Name x pos) (gName i):=by
  intro pins s σ H v u Q I r h
  exact wpAny_assign_Name (store_ok I hN hi hx r (fun s' I'=>⟨_,H,I',h⟩) hf)
noncomputable def gNil:TGs:=fun vs σ H Q=>vs=[]∧Q σ H
noncomputable def gCons (t:TG) (u:TGs):TGs:=fun vs σ H Q=>∃ v r,vs=v::r∧t v σ H fun σ' H'=>u r σ' H' Q
theorem pgs_nil:PGs X [] gNil:=by
  intro pins s σ H vs us Q I r h
  obtain ⟨e,h⟩:=h
  subst e
  cases r
  exact assignInOrder_nil ⟨σ,H,I,h⟩
theorem pgs_cons {e:Expr} {es:List Expr} {t:TG} {u:TGs} (h1:PG X e t) (h2:PGs X es u)
    (hs:(assignEach (e::es) X.env).map (·.2)=assign e X.env::(assignEach es X.env).map (·.2):=by rfl):PGs X (e::es) (gCons t u):=by
  intro pins s σ H vs us Q I r h
  obtain ⟨v,vr,e1,h⟩:=h
  subst e1
  cases r with
  | cons r rr=>
    rw [hs]
    refine assignInOrder_cons (thn (h1 pins s σ H _ _ _ I r h) fun _ s1 ⟨σ1,H1,I1,q1⟩=> ?_)
    exact h2 pins s1 σ1 H1 _ _ Q I1 rr q1
noncomputable def gTup (K:PySem.W.Frag) (n:Nat) (t:TGs):TG:=fun v σ H Q=>∃ a xs,v= .ref a∧SqT K H a xs∧xs.length=n∧t xs σ H Q
theorem pg_tup {es:List Expr} {k:Nat} {t:TGs} {n:Nat} (hc:X.calm=true) (h:PGs X es t)
    (hn:(assignEach es X.env).length=n:=by rfl) (hst:(assignEach es X.env).findIdx? (·.1)=none:=by rfl):PG X (.Tuple es k pos) (gTup X.K n t):=by
  intro pins s σ H v u Q I r hw
  obtain ⟨a,xs,e1,hq,hl,hw⟩:=hw
  subst e1
  cases r
  obtain ⟨its,rv,ht,hz⟩:=I.tuple hq
  refine assign_Tuple_tuple (I.ok.hd hc) ht (by simp [hn, ← hl,rv.length]) hst fun h' hx=> ?_
  have I1:Inv X pins σ H { s with heap:=h' }:=I.kept (t':=s.toks) fun b o e=>hx b o (Nat.ne_of_lt (Heap.lt_size e)) e
  exact h pins _ σ H xs _ Q I1 (by simpa using rv) hw
noncomputable def gSub (to ti:TE) (t:TSet):TG:=fun v σ H Q=>to σ H fun o H1=>ti σ H1 fun i H2=>t o i v H2 fun H3=>Q σ H3
theorem pg_sub {o i:Expr} {to ti:TE} {t:TSet} (ho:PE X o to) (hi:PE X i ti) (hs:PSet X t)
    (ha:∀ v,assign (.Subscript o i pos) X.env v=(do
      let ov ← holding [v] (eval o X.env)
      let iv ← holding [v,ov] (eval i X.env)
      standAt pos
      holding [v,ov,iv] (setItem ov iv v)
      release [v,ov,iv] []):=by intro _;rfl):PG X (.Subscript o i pos) (gSub to ti t):=by
  intro pins s σ H v u Q I r h
  rw [ha]
  refine wpAny_bind (wpAny_holding (thn (ho pins s σ H _ I h) fun ov s1 ⟨x,H1,I1,r1,q1⟩=> ?_))
  refine wpAny_bind (wpAny_holding (thn (hi pins s1 σ H1 _ I1 q1) fun iv s2 ⟨y,H2,I2,r2,q2⟩=> ?_))
  refine wpAny_bind (wpAny_standAt (wpAny_bind (wpAny_holding (thn (hs pins s2 σ H2 x y v ov iv u _ I2 r1 r2 r q2) fun _ s3 ⟨H3,I3,q3⟩=> ?_))))
  exact wpAny_release ⟨σ,H3,I3,q3⟩
noncomputable def tAsg (te:TE) (g:TG):TS:=fun D σ H=>te σ H fun x H1=>g x σ H1 D.nx
theorem ps_asg {tg e:Expr} {te:TE} {g:TG} (he:PE X e te) (hg:PG X tg g) (hs:swapsWithSole [tg] e pos.line X.env=pure false:=by rfl) (hw:swappedStores [tg] e X.env=pure none:=by rfl)
    (h1:(assignEach [tg] X.env).map (·.2)=[assign tg X.env]:=by rfl):PS X (.Assign [tg] e pos) (tAsg te g):=by
  intro pins s σ H D I h
  refine wpAny_Assign_stores (thn (he pins s σ H _ I h) fun v s1 ⟨x,H1,I1,r1,q1⟩=> ?_) hs hw
  rw [h1]
  exact thn (hg pins s1 σ H1 x v _ I1 r1 q1) fun _ s2 q=>q
theorem ps_set {i:Nat} {x:Str} {e:Expr} {te:TE} {pos':Pos} (hN:X.N.Nodup) (hi:X.N[i]?=some x) (hx:Loc X.env.scope x) (he:PE X e te) (hs:swapsWith e (some (.Name x pos')) pos.line X.env=pure false:=by rfl) (hf:X.fn x=true∨X.env.scope.names.lookup x=some .local:=by first | exact .inl rfl | exact .inr rfl | assumption):
    PS X (.Assign [.Name x pos'] e pos) (tAsg te (gName i)):=by
  intro pins s σ H D I h
  refine wpAny_Assign_Name (thn (he pins s σ H _ I h) fun v s1 ⟨y,H1,I1,r1,q1⟩=> ?_) hs
  exact store_ok I1 hN hi hx r1 (fun s2 I2=>⟨_,H1,I2,q1⟩) hf
noncomputable def tAug (i:Nat) (te:TE) (ti:TIp):TS:=fun D σ H=>∃ x,σ[i]?=some (some x)∧te σ H fun y H1=>ti x y H1 fun z H2=>D.nx (σ.set i (some z)) H2
theorem ps_aug {i:Nat} {x:Str} {e:Expr} {te:TE} {op:Operator} {ti:TIp} {pos':Pos} (hN:X.N.Nodup) (hi:X.N[i]?=some x) (hx:Loc X.env.scope x) (he:PE X e te) (ho:PIp X op ti) (hf:X.fn x=true∨X.env.scope.names.lookup x=some .local:=by first | exact .inl rfl | exact .inr rfl | assumption):
    PS X (.AugAssign (.Name x pos') op e pos) (tAug i te ti):=by
  intro pins s σ H D I h
  obtain ⟨v,e1,h⟩:=h
  obtain ⟨m,hn,hl⟩:=I.loc
  have vis:Vis X.env.scope x:=by rcases hx with k | k;exact .inl k;exact .inr (.inl k)
  obtain ⟨u,r,l⟩:=hl i x v hi e1 vis
  refine wpAny_AugAssign_Name ?_
  have go:wpAny (model X.prog X.w) X.A (eval e X.env) (fun w s₂=>wpAny (model X.prog X.w) X.A (inplaceOp op u w) (fun r s₃=>wpAny (model X.prog X.w) X.A (storeName X.env x r) (fun _=>SP X pins D .next) X.xe s₃) X.xe s₂) X.xe s:=by
    refine thn (he pins s σ H _ I h) fun w s1 ⟨y,H1,I1,r1,q1⟩=> ?_
    refine thn (ho pins s1 σ H1 v y u w _ I1 r r1 q1) fun z s2 ⟨zv,H2,I2,r2,q2⟩=> ?_
    exact store_ok I2 hN hi hx r2 (fun s3 I3=>⟨_,H2,I3,q2⟩) hf
  rcases l with ⟨hk,hm⟩ | ⟨hk,c,hc,hcell⟩
  · exact wpAny_loadName_local I.ok.kind hk hn hm go
  · rcases hk with hk | hk
    · exact wpAny_loadName_cell I.ok.kind hk hc hcell go
    · rcases hx with k | k
      · have:X.env.scope.names.lookup x=some .free:=hk
        rw [k] at this;cases this
      · have:X.env.scope.names.lookup x=some .free:=hk
        rw [k] at this;cases this
noncomputable def tAugS (to ti te:TE) (tget:V→V→Hp→VK→Prop) (tip:TIp) (tset:TSet):TS:=fun D σ H=>to σ H fun o H1=>ti σ H1 fun i H2=>tget o i H2 fun x H3=>te σ H3 fun y H4=>tip x y H4 fun z H5=>tset o i z H5 fun H6=>D.nx σ H6
noncomputable def PGet (X:Cx) (t:V→V→Hp→VK→Prop):Prop:=
  ∀ (pins:List (Addr × Obj)) (s:Shared) (σ:St) (H:Hp) (o i:V) (ov iv:Value) (Q:VK),Inv X pins σ H s→RelV o ov→RelV i iv→t o i H Q→
    wpAny (model X.prog X.w) X.A (getItem ov iv) (EP X pins σ Q) X.xe s
theorem ps_augS {o i e:Expr} {to ti te:TE} {tget:V→V→Hp→VK→Prop} {tip:TIp} {tset:TSet} {op:Operator} {tpos:Pos} (ho:PE X o to) (hi:PE X i ti) (hg:PGet X tget) (he:PE X e te) (hp:PIp X op tip) (hs:PSet X tset)
    (ha:∀ ov iv new,augStore i ov iv new=(do holding [new,ov,iv] (setItem ov iv new);release [new,ov,iv] [];pure .next):=by intros;rfl):PS X (.AugAssign (.Subscript o i tpos) op e pos) (tAugS to ti te tget tip tset):=by
  intro pins s σ H D I h
  refine wpAny_AugAssign_SubscriptAny (thn (ho pins s σ H _ I h) fun ov s1 ⟨x1,H1,I1,r1,q1⟩=> ?_) ha
  refine thn (hi pins s1 σ H1 _ I1 q1) fun iv s2 ⟨x2,H2,I2,r2,q2⟩=> ?_
  refine thn (hg pins s2 σ H2 x1 x2 ov iv _ I2 r1 r2 q2) fun old s3 ⟨x3,H3,I3,r3,q3⟩=> ?_
  refine thn (he pins s3 σ H3 _ I3 q3) fun v s4 ⟨x4,H4,I4,r4,q4⟩=> ?_
  refine thn (hp pins s4 σ H4 x3 x4 old v _ I4 r3 r4 q4) fun new s5 ⟨x5,H5,I5,r5,q5⟩=> ?_
  exact thn (hs pins s5 σ H5 x1 x2 x5 ov iv new _ I5 r1 r2 r5 q5) fun _ s6 ⟨H6,I6,q6⟩=>⟨σ,H6,I6,q6⟩
end
section
variable {X:Cx} {pos:Pos}
end
structure It where
  go:Nat→Hp→Prop
  yld:Nat→Hp→V→Hp→Prop
  stop:Nat→Hp→Prop
noncomputable def FpOk (X:Cx) (pins:List (Addr × Obj)) (H:Hp) (b:Addr):Prop:=
  H b=none∧b≠X.env.locals∧b∉X.fs∧(b∈X.ex∨X.s₀.heap.objs.size≤b)∧(∀ x c,X.env.cells.lookup x=some c→c≠b)∧∀ p∈X.pn++pins,p.1≠b
theorem Inv.fpOk {X:Cx} {pins:List (Addr × Obj)} {σ:St} {H H':Hp} {s:Shared} {b:Addr} (I:Inv X pins σ H s) (hb:s.heap.objs.size≤b) (hn:H' b=none):FpOk X pins H' b:=by
  refine ⟨hn,Nat.ne_of_gt (Nat.lt_of_lt_of_le I.lt hb),I.nofs hb, .inr (Nat.le_trans I.sz hb),fun x c e z=> ?_,fun p hp z=> ?_⟩
  · obtain ⟨v,q⟩:=I.cell x c e
    exact absurd (Nat.lt_of_lt_of_le q.lt (by rw [z];exact hb)) (Nat.lt_irrefl _)
  · exact absurd (Nat.lt_of_lt_of_le (Heap.lt_size (I.pin p hp).1) (by rw [z];exact hb)) (Nat.lt_irrefl _)
structure Turn (P:Program) (w:World) (K:PySem.W.Frag) (tg:Expr) (J:It) (fp:List Addr) (it:Addr) (tn:Nat→Heap→Prop):Prop where
  mem:it∈fp
  obj:∀ i h,tn i h→∀ b∈fp,∃ o,h.get? b=some o∧∀ v,o.data≠ .cell v
  keep:∀ i h h',tn i h→(∀ b∈fp,∀ o,h.get? b=some o→h'.get? b=some o)→tn i h'
  item:∀ (X:Cx),X.prog=P→X.w=w→X.K=K→X.calm=true→∀ (i:Nat) (pins:List (Addr × Obj)) (s:Shared) (σ:St) (H:Hp) (E:Value→Shared→Prop),Inv X pins σ H s→(∀ b∈fp,FpOk X pins H b)→tn i s.heap→J.go i H→
    wpAny (model P w) X.A (pyNext (.ref it)) (fun r s1=>∃ u,r=some u∧
      wpAny (model P w) X.A (letOwnedTupleGo tg (.ref it) u) (fun _ s2=>∃ x H',Inv X pins σ H' s2∧RelV x u∧J.yld i H x H'∧tn (i+1) s2.heap∧∀ b∈fp,H' b=none) E s1) E s
  done:∀ (X:Cx),X.prog=P→X.w=w→X.K=K→X.calm=true→∀ (i:Nat) (pins:List (Addr × Obj)) (s:Shared) (σ:St) (H:Hp) (E:Value→Shared→Prop),Inv X pins σ H s→(∀ b∈fp,FpOk X pins H b)→tn i s.heap→J.stop i H→
    wpAny (model P w) X.A (pyNext (.ref it)) (fun r s1=>r=none∧Inv X pins σ H s1) E s
  self:∀ (A:Around) (i:Nat) (s:Shared) (Q:Value→Shared→Prop) (E:Value→Shared→Prop),tn i s.heap→Q (.ref it) s→wpAny (model P w) A (pyIter (.ref it)) Q E s
noncomputable abbrev TI:=St→Hp→(It→Hp→Prop)→Prop
noncomputable def PIE (X:Cx) (pins:List (Addr × Obj)) (σ:St) (tg:Expr) (R:It→Hp→Prop) (itv:Value) (s2:Shared):Prop:=
  ∃ (it:Addr) (fp:List Addr) (tn:Nat→Heap→Prop) (J:It) (H':Hp),itv= .ref it∧Inv X pins σ H' s2∧Turn X.prog X.w X.K tg J fp it tn∧tn 0 s2.heap∧(∀ b∈fp,FpOk X pins H' b)∧R J H'
noncomputable def PI (X:Cx) (tg iter:Expr) (wi:TI):Prop:=
  ∀ (pins:List (Addr × Obj)) (s:Shared) (σ:St) (H:Hp) (R:It→Hp→Prop),Inv X pins σ H s→wi σ H R→
    wpAny (model X.prog X.w) X.A (eval iter X.env) (fun v s1=>wpAny (model X.prog X.w) X.A (pyIter v) (PIE X pins σ tg R) X.xe s1) X.xe s
theorem go_of {M:Model} {A:Around} {E:Value→Shared→Prop} {s:Shared} {tg:Expr} {it:Addr} {u:Value} {o:Obj} {n:String} {vs:Array Value} {Q:Unit→Shared→Prop} (ho:s.heap.get? it=some o) (hc:o.cls= .type n) (hd:o.data= .fields vs)
    (hn:["enumerate","zip","dict_itemiterator","dict_reverseitemiterator","odict_iterator","itertools.zip_longest","itertools.pairwise"].contains n=false) (hQ:Q () s):wpAny M A (letOwnedTupleGo tg (.ref it) u) Q E s:=by
  unfold letOwnedTupleGo
  cases tg <;> first
    | exact wpAny_pure hQ
    | (cases u <;> first
        | exact wpAny_pure hQ
        | (refine wpAny_bind (wpAny_load ho ?_)
           rw [hc,hd]
           show wpAny M A (if (["enumerate","zip","dict_itemiterator","dict_reverseitemiterator","odict_iterator","itertools.zip_longest","itertools.pairwise"].contains n&&vs[0]? == some (rawInt _))=true then _ else _) Q E s
           rw [if_neg (by intro h;rw [hn,Bool.false_and] at h;cases h)]
           exact wpAny_pure hQ))
noncomputable def Itl (K:PySem.W.Frag) (a:Addr):It:=
  ⟨fun i H=>∃ xs x,SqL K H a xs∧xs[i]?=some x,fun i H x H'=>H'=H∧∀ xs,SqL K H a xs→xs[i]?=some x,fun i H=>∃ xs,SqL K H a xs∧xs.length≤i⟩
noncomputable def Itt (K:PySem.W.Frag) (a:Addr):It:=
  ⟨fun i H=>∃ xs x,SqT K H a xs∧xs[i]?=some x,fun i H x H'=>H'=H∧∀ xs,SqT K H a xs→xs[i]?=some x,fun i H=>∃ xs,SqT K H a xs∧xs.length≤i⟩
noncomputable def Itr (lo:Int) (n:Nat):It:=⟨fun i _=>i<n,fun i H x H'=>H'=H∧x= .int (lo+i),fun i _=>n≤i⟩
theorem turn_list {P:Program} {w:World} {K:PySem.W.Frag} {tg:Expr} (a it:Addr):Turn P w K tg (Itl K a) [it] it (fun i h=>h.IsListIter it a i) where
  mem:=by simp
  obj:=fun i h st b hb=>by
    have e:b=it:=by simpa using hb
    subst e
    obtain ⟨o,e,c,d⟩:=st
    exact ⟨o,e,fun v z=>by rw [d] at z;cases z⟩
  keep:=fun i h h' st k=>st.at fun o e=>k it (by simp) o e
  item:=by
    intro X hP hw hK hc i pins s σ H E I hf st hg
    subst hP hw hK
    obtain ⟨xs,x,hq,hx⟩:=hg
    obtain ⟨its,rv,p,hz⟩:=I.list hq
    obtain ⟨u,hu,ru⟩:=rv.get hx
    obtain ⟨f0,f1,f2,f3,f4,f5⟩:=hf it (by simp)
    refine wpAny_pyNext_list_item st p.isList (x:=u) (by simpa using hu) fun h' st' sb=> ?_
    have I1:Inv X pins σ H { s with heap:=h' }:=I.turned (t':=s.toks) (fun b o hb e=>(sb.2 b hb).trans e) f0 f1 f3 f4 f5
    obtain ⟨o,e,c,d⟩:=id st'
    exact ⟨u,rfl,go_of (s:={ s with heap:=h' }) e c d (by decide) ⟨x,H,I1,ru,⟨rfl,fun ys hy=>by rw [I.list_inj hy hq];exact hx⟩,st',fun b hb=>(hf b hb).1⟩⟩
  done:=by
    intro X hP hw hK hc i pins s σ H E I hf st hg
    subst hP hw hK
    obtain ⟨xs,hq,hx⟩:=hg
    obtain ⟨its,rv,p,hz⟩:=I.list hq
    obtain ⟨f0,f1,f2,f3,f4,f5⟩:=hf it (by simp)
    have hl:=rv.length
    exact wpAny_pyNext_list_end (I.ok.hd hc) st p.isList (by simp;omega) fun h' eb=>⟨rfl,I.turned (t':=s.toks) (fun b o hb e=>eb b o hb e) f0 f1 f3 f4 f5⟩
  self:=fun _ _ _ _ _ st h=>wpAny_pyIter_listiter st h
theorem turn_tuple {P:Program} {w:World} {K:PySem.W.Frag} {tg:Expr} (a it:Addr):Turn P w K tg (Itt K a) [it] it (fun i h=>h.IsTupleIter it a i) where
  mem:=by simp
  obj:=fun i h st b hb=>by
    have e:b=it:=by simpa using hb
    subst e
    obtain ⟨o,e,c,d⟩:=st
    exact ⟨o,e,fun v z=>by rw [d] at z;cases z⟩
  keep:=fun i h h' st k=>st.at fun o e=>k it (by simp) o e
  item:=by
    intro X hP hw hK hc i pins s σ H E I hf st hg
    subst hP hw hK
    obtain ⟨xs,x,hq,hx⟩:=hg
    obtain ⟨its,rv,p,hz⟩:=I.tuple hq
    obtain ⟨u,hu,ru⟩:=rv.get hx
    obtain ⟨f0,f1,f2,f3,f4,f5⟩:=hf it (by simp)
    refine wpAny_pyNext_tuple_item st (show s.heap.IsTuple a its.toArray from p) (x:=u) (by simpa using hu) fun h' st' sb=> ?_
    have I1:Inv X pins σ H { s with heap:=h' }:=I.turned (t':=s.toks) (fun b o hb e=>(sb.2 b hb).trans e) f0 f1 f3 f4 f5
    obtain ⟨o,e,c,d⟩:=id st'
    exact ⟨u,rfl,go_of (s:={ s with heap:=h' }) e c d (by decide) ⟨x,H,I1,ru,⟨rfl,fun ys hy=>by rw [I.tuple_inj hy hq];exact hx⟩,st',fun b hb=>(hf b hb).1⟩⟩
  done:=by
    intro X hP hw hK hc i pins s σ H E I hf st hg
    subst hP hw hK
    obtain ⟨xs,hq,hx⟩:=hg
    obtain ⟨its,rv,p,hz⟩:=I.tuple hq
    obtain ⟨f0,f1,f2,f3,f4,f5⟩:=hf it (by simp)
    have hl:=rv.length
    exact wpAny_pyNext_tuple_end (I.ok.hd hc) st (show s.heap.IsTuple a its.toArray from p) (by simp;omega) fun h' eb=>⟨rfl,I.turned (t':=s.toks) (fun b o hb e=>eb b o hb e) f0 f1 f3 f4 f5⟩
  self:=fun _ _ _ _ _ st h=>wpAny_pyIter_tupleiter st h
theorem turn_range {P:Program} {w:World} {K:PySem.W.Frag} {tg:Expr} (it:Addr) (lo:Int) (n:Nat):Turn P w K tg (Itr lo n) [it] it (fun i h=>IsRangeIter h it (lo+(i:Nat)*1) ((n:Int) - (i:Nat)) 1) where
  mem:=by simp
  obj:=fun i h st b hb=>by
    have e:b=it:=by simpa using hb
    subst e
    exact ⟨_,st,fun v z=>by
      have z':Data.fields _=Data.cell v:=z
      cases z'⟩
  keep:=fun i h h' st k=>k it (by simp) _ st
  item:=by
    intro X hP hw hK hc i pins s σ H E I hf st hg
    subst hP hw hK
    obtain ⟨f0,f1,f2,f3,f4,f5⟩:=hf it (by simp)
    have W:=Walks.range (prog:=X.prog) (w:=X.w) (I.ok.hd hc) it lo 1 n
    refine W.item i s _ _ hg st fun v h' tk hv st' kk=> ?_
    obtain ⟨t,rfl⟩:=hv
    have I1:Inv X pins σ H { s with heap:=h',toks:=tk }:=I.turned (fun b o hb e=>kk b o (by simpa using hb) e) f0 f1 f3 f4 f5
    refine ⟨_,rfl,go_of (s:={ s with heap:=h',toks:=tk }) (n:="range_iterator") st' rfl rfl (by decide) ⟨.int (lo+i),H,I1,⟨t,?_⟩,⟨rfl,rfl⟩,st',fun b hb=>(hf b hb).1⟩⟩
    rw [Int.mul_one]
  done:=by
    intro X hP hw hK hc i pins s σ H E I hf st hg
    subst hP hw hK
    obtain ⟨f0,f1,f2,f3,f4,f5⟩:=hf it (by simp)
    exact wpAny_pyNext_range_end (I.ok.hd hc) st (by have:n≤i:=hg;omega) fun h' eb=>⟨rfl,I.turned (t':=s.toks) (fun b o hb e=>eb b o hb e) f0 f1 f3 f4 f5⟩
  self:=fun _ _ _ _ _ st h=>wpAny_pyIter_rangeiter st h
end L2
namespace L2
open PySem PySem.Spec PyProof.Rows
section
variable {X:Cx} {tg:Expr}
noncomputable def iList (K:PySem.W.Frag) (tl:TE):TI:=fun σ H R=>tl σ H fun x H1=>∃ a,x= .ref a∧(∃ xs,SqL K H1 a xs)∧R (Itl K a) H1
noncomputable def iTup (K:PySem.W.Frag) (tl:TE):TI:=fun σ H R=>tl σ H fun x H1=>∃ a,x= .ref a∧(∃ xs,SqT K H1 a xs)∧R (Itt K a) H1
theorem pi_list {l:Expr} {tl:TE} (hl:PE X l tl):PI X tg l (iList X.K tl):=by
  intro pins s σ H R I h
  refine thn (hl pins s σ H _ I h) fun v s1 ⟨x,H1,I1,r1,q1⟩=> ?_
  obtain ⟨a,e,⟨xs,hq⟩,q⟩:=q1
  subst e
  cases r1
  obtain ⟨its,rv,p,hz⟩:=I1.list hq
  refine wpAny_pyIter_list p.isList ?_
  refine ⟨s1.heap.objs.size,[s1.heap.objs.size],_,_,H1,rfl,I1.kept (t':=s1.toks) fun b o e=>Heap.get?_push_of_some _ e,turn_list a _,⟨_,Heap.get?_push_size _ rfl,rfl,rfl⟩,fun b hb=> ?_,q⟩
  have e:b=s1.heap.objs.size:=by simpa using hb
  subst e
  exact I1.fpOk (Nat.le_refl _) (I1.hok.fresh (Nat.le_refl _))
theorem pi_tup {l:Expr} {tl:TE} (hl:PE X l tl):PI X tg l (iTup X.K tl):=by
  intro pins s σ H R I h
  refine thn (hl pins s σ H _ I h) fun v s1 ⟨x,H1,I1,r1,q1⟩=> ?_
  obtain ⟨a,e,⟨xs,hq⟩,q⟩:=q1
  subst e
  cases r1
  obtain ⟨its,rv,p,hz⟩:=I1.tuple hq
  refine wpAny_pyIter_tuple (show s1.heap.IsTuple a its.toArray from p) ?_
  refine ⟨s1.heap.objs.size,[s1.heap.objs.size],_,_,H1,rfl,I1.kept (t':=s1.toks) fun b o e=>Heap.get?_push_of_some _ e,turn_tuple a _,⟨_,Heap.get?_push_size _ rfl,rfl,rfl⟩,fun b hb=> ?_,q⟩
  have e:b=s1.heap.objs.size:=by simpa using hb
  subst e
  exact I1.fpOk (Nat.le_refl _) (I1.hok.fresh (Nat.le_refl _))
theorem range_it {pins:List (Addr × Obj)} {σ:St} {H:Hp} {s:Shared} {R:It→Hp→Prop} {E:Value→Shared→Prop} {lo hi:Int} {t u v:Tok} {tk:Nat} (I:Inv X pins σ H s) (h1: -(2 ^ 62)≤lo) (h2:lo<2 ^ 62) (h3: -(2 ^ 62)≤hi) (h4:hi<2 ^ 62)
    (q:R (Itr lo (hi - lo).toNat) H):wpAny (model X.prog X.w) X.A (pyIter (.ref s.heap.objs.size)) (PIE X pins σ tg R) E { s with heap:=s.heap.push { cls:= .type "range",data:= .fields #[.int lo t, .int hi u, .int 1 v] },toks:=tk }:=by
  refine wpAny_pyIter_range (IsRange.new ..) (small_one h1 h2 h3 h4) ?_
  have I1:Inv X pins σ H { s with heap:=s.heap.push { cls:= .type "range",data:= .fields #[.int lo t, .int hi u, .int 1 v] },toks:=tk }:=I.kept fun b o e=>Heap.get?_push_of_some _ e
  refine ⟨(s.heap.push { cls:= .type "range",data:= .fields #[.int lo t, .int hi u, .int 1 v] }).objs.size,[(s.heap.push { cls:= .type "range",data:= .fields #[.int lo t, .int hi u, .int 1 v] }).objs.size],_,_,H,rfl,
    I1.kept (t':=tk) fun b o e=>Heap.get?_push_of_some _ e,turn_range _ lo (hi - lo).toNat,?_,fun b hb=> ?_,q⟩
  · have e1:lo+((0:Nat):Int)*1=lo:=by simp
    have e2:(((hi - lo).toNat:Nat):Int) - ((0:Nat):Int)=Builtin.Range.rangeSize lo hi 1:=by rw [rangeSize_one];split <;> omega
    show IsRangeIter _ _ (lo+((0:Nat):Int)*1) ((((hi - lo).toNat:Nat):Int) - ((0:Nat):Int)) 1
    rw [e1,e2]
    exact Heap.get?_push_size _ rfl
  · have e:b=(s.heap.push { cls:= .type "range",data:= .fields #[.int lo t, .int hi u, .int 1 v] }).objs.size:=by simpa using hb
    subst e
    exact I1.fpOk (Nat.le_refl _) (I1.hok.fresh (Nat.le_refl _))
noncomputable def iRng1 (ta:TA):TI:=fun σ H R=>ta σ H fun vs H1=>∃ j:Int,vs=[.int j]∧ -(2 ^ 62)≤j∧j<2 ^ 62∧R (Itr 0 j.toNat) H1
noncomputable def iRng2 (ta:TA):TI:=fun σ H R=>ta σ H fun vs H1=>∃ i j:Int,vs=[.int i, .int j]∧(-(2 ^ 62)≤i∧i<2 ^ 62∧ -(2 ^ 62)≤j∧j<2 ^ 62)∧R (Itr i (j - i).toNat) H1
theorem pi_range1 {a:Expr} {ta:TA} {p pos:Pos} (hg:Gl X "range") (hm:X.mg "range"=none) (ha:PA X [a] ta) (hs:starEach [a] X.env=[(false,eval a X.env)]:=by rfl):PI X tg (.Call (.Name "range" p) [a] [] pos) (iRng1 ta):=by
  intro pins s σ H R I h
  refine Call_ (ld_blt I hg hm boot_range (PyProof.Rows.callWith_type1 (thn (ha pos pins s σ H _ I h) fun us s1 ⟨vs,H1,I1,r1,q1⟩=> ?_) hs rfl))
  obtain ⟨j,e,q1,q2,q⟩:=q1
  subst e
  cases r1 with
  | cons r rr=>
    cases rr
    obtain ⟨t,rfl⟩:=r
    exact call_range_1 (range_it I1 (by omega) (by omega) q1 q2 (by simpa using q))
theorem pi_range2 {a b:Expr} {ta:TA} {p pos:Pos} (hg:Gl X "range") (hm:X.mg "range"=none) (ha:PA X [a,b] ta) (hs:starEach [a,b] X.env=[(false,eval a X.env),(false,eval b X.env)]:=by rfl) (hs2:starEach [b] X.env=[(false,eval b X.env)]:=by rfl):
    PI X tg (.Call (.Name "range" p) [a,b] [] pos) (iRng2 ta):=by
  intro pins s σ H R I h
  refine Call_ (ld_blt I hg hm boot_range (PyProof.Rows.callWith_type1 (thn (ha pos pins s σ H _ I h) fun us s1 ⟨vs,H1,I1,r1,q1⟩=> ?_) (by rw [hs,hs2]) (by rw [hs2];rfl)))
  obtain ⟨i,j,e,⟨q1,q2,q3,q4⟩,q⟩:=q1
  subst e
  cases r1 with
  | cons r rr=>
    cases rr with
    | cons r' rr=>
      cases rr
      obtain ⟨t,rfl⟩:=r
      obtain ⟨t',rfl⟩:=r'
      exact call_range_2 (range_it I1 q1 q2 q3 q4 q)
noncomputable def tFor (wi:TI) (g:TG) (tb:TS):TS:=fun D σ H=>wi σ H fun J H1=>∃ W:Nat→Nat→St→Hp→Prop,(∃ m,W 0 m σ H1)∧∀ i m σ H,W i m σ H→
  (J.stop i H∧D.nx σ H)∨(J.go i H∧∃ N:St→Hp→Prop,(∀ σ' H',N σ' H'→∃ m',m'<m∧W (i+1) m' σ' H')∧∀ x H',J.yld i H x H'→g x σ H' fun σ2 H2=>tb { D with nx:=N,ct:=N,bk:=D.nx } σ2 H2)
noncomputable def pinsAt (fp:List Addr) (h:Heap):List (Addr × Obj):=fp.filterMap fun b=>(h.get? b).map fun o=>(b,o)
theorem mem_pinsAt {fp:List Addr} {h:Heap} {b:Addr} {o:Obj} (hb:b∈fp) (e:h.get? b=some o):(b,o)∈pinsAt fp h:=List.mem_filterMap.mpr ⟨b,hb,by rw [e];rfl⟩
theorem of_pinsAt {fp:List Addr} {h:Heap} {p:Addr × Obj} (hp:p∈pinsAt fp h):p.1∈fp∧h.get? p.1=some p.2:=by
  obtain ⟨b,hb,e⟩:=List.mem_filterMap.mp hp
  cases q:h.get? b with
  | none=>rw [q] at e;cases e
  | some o=>
    rw [q] at e
    have e':(b,o)=p:=Option.some.inj e
    subst e'
    exact ⟨hb,q⟩
theorem Inv.pinned {pins:List (Addr × Obj)} {σ:St} {H:Hp} {s:Shared} {fp:List Addr} (I:Inv X pins σ H s) (hf:∀ b∈fp,FpOk X pins H b) (ho:∀ b∈fp,∃ o,s.heap.get? b=some o∧∀ v,o.data≠ .cell v):Inv X (pins++pinsAt fp s.heap) σ H s:=
  I.pins_of fun p hp=>(List.mem_append.mp hp).elim (fun z=>I.pin p (List.mem_append_right _ z)) fun z=>by
    obtain ⟨hb,e⟩:=of_pinsAt z
    obtain ⟨f0,f1,f2,_⟩:=hf p.1 hb
    obtain ⟨o,e',d⟩:=ho p.1 hb
    rw [e] at e';cases e'
    exact ⟨e,f0,f1,f2,d⟩
theorem Inv.unpinned {pins pl:List (Addr × Obj)} {σ:St} {H:Hp} {s:Shared} (I:Inv X (pins++pl) σ H s):Inv X pins σ H s:=I.pins_of fun p hp=>I.pin p (List.mem_append_right _ (List.mem_append_left _ hp))
theorem ps_for {iter:Expr} {body:List Stmt} {wi:TI} {g:TG} {tb:TS} {pos:Pos} (hp:PassesOwn (model X.prog X.w) X.A X.env X.xe) (hc:X.calm=true) (hi:PI X tg iter wi) (hg:PG X tg g) (hb:PSs X body tb)
    (hs:∀ x,foldedSetIterable iter X.env x=pure x:=by intro _;rfl):PS X (.For tg iter body [] pos) (tFor wi g tb):=by
  intro pins s σ H D I h
  refine wpAny_For (thn (hi pins s σ H _ I h) fun v s1 h1=>thn h1 fun itv s2 h2=> ?_) hs
  obtain ⟨it,fp,tn,J,H2,e,I2,T,st2,f2,W,⟨m0,w0⟩,turn⟩:=h2
  subst e
  have stat:∀ {H':Hp},(∀ b∈fp,H' b=none)→∀ b∈fp,FpOk X pins H' b:=fun hn b hb=>⟨hn b hb,(f2 b hb).2⟩
  refine codeAny_forLoop_any (fun n s'=>∃ i σ' H',Inv X pins σ' H' s'∧tn i s'.heap∧(∀ b∈fp,H' b=none)∧W i n σ' H') ?_ m0 ⟨0,σ,H2,I2,st2,fun b hb=>(f2 b hb).1,w0⟩
  rintro n s3 ⟨i,σ3,H3,I3,st3,fr3,w3⟩
  rcases turn i n σ3 H3 w3 with ⟨stop,qn⟩ | ⟨go,N,hN,step⟩
  · refine wpAny_passesOwn hp (thn (T.done X rfl rfl rfl hc i pins s3 σ3 H3 X.xe I3 (stat fr3) st3 stop) fun r s4 ⟨hr,I4⟩=> ?_)
    subst hr
    exact wpAny_execs_nil ⟨σ3,H3,I4,qn⟩
  · refine wpAny_passesOwn hp (thn (T.item X rfl rfl rfl hc i pins s3 σ3 H3 X.xe I3 (stat fr3) st3 go) fun r s4 ⟨u,hr,h4⟩=> ?_)
    subst hr
    refine wpAny_passesOwn hp (thn h4 fun _ s5 ⟨x,H5,I5,r5,y5,st5,fr5⟩=> ?_)
    have I5':=I5.pinned (stat fr5) (T.obj _ _ st5)
    refine wpAny_passesOwn hp (thn (hg _ s5 σ3 H5 x u _ I5' r5 (step x H5 y5)) fun _ s6 ⟨σ6,H6,I6,q6⟩=> ?_)
    refine wpAny_passesOwn hp (thn (hb _ s6 σ6 H6 _ I6 q6) fun f s7 q7=> ?_)
    have again:∀ {σ7:St} {H7:Hp},Inv X (pins++pinsAt fp s5.heap) σ7 H7 s7→N σ7 H7→∃ m,m<n∧∃ i σ' H',Inv X pins σ' H' s7∧tn i s7.heap∧(∀ b∈fp,H' b=none)∧W i m σ' H':=fun {σ7 H7} I7 n7=>by
      obtain ⟨m',hm,w7⟩:=hN σ7 H7 n7
      refine ⟨m',hm,i+1,σ7,H7,I7.unpinned,T.keep _ _ _ st5 fun b hb o e=>(I7.pin (b,o) (List.mem_append_right _ (List.mem_append_right _ (mem_pinsAt hb e)))).1,fun b hb=> ?_,w7⟩
      obtain ⟨o,e,d⟩:=T.obj _ _ st5 b hb
      exact (I7.pin (b,o) (List.mem_append_right _ (List.mem_append_right _ (mem_pinsAt hb e)))).2.1
    cases f with
    | next=>obtain ⟨σ7,H7,I7,n7⟩:=q7;exact again I7 n7
    | cont=>obtain ⟨σ7,H7,I7,n7⟩:=q7;exact again I7 n7
    | brk=>obtain ⟨σ7,H7,I7,q7⟩:=q7;exact ⟨σ7,H7,I7.unpinned,q7⟩
    | ret v=>obtain ⟨x7,σ7,H7,I7,r7,q7⟩:=q7;exact ⟨x7,σ7,H7,I7.unpinned,r7,q7⟩
end
end L2
namespace L2
open PySem PySem.Spec PyProof.Rows
noncomputable abbrev R2:=V→V→Hp→VK→Prop
noncomputable def OpR (X:Cx) (f:Value→Value→Sem Value) (r:R2):Prop:=
  ∀ (pins:List (Addr × Obj)) (s:Shared) (σ:St) (H:Hp) (x y:V) (v u:Value) (Q:VK),Inv X pins σ H s→RelV x v→RelV y u→r x y H Q→
    wpAny (model X.prog X.w) X.A (f v u) (EP X pins σ Q) X.xe s
noncomputable def UnR (X:Cx) (f:Value→Sem Value) (r:V→Hp→VK→Prop):Prop:=
  ∀ (pins:List (Addr × Obj)) (s:Shared) (σ:St) (H:Hp) (x:V) (v:Value) (Q:VK),Inv X pins σ H s→RelV x v→r x H Q→
    wpAny (model X.prog X.w) X.A (f v) (EP X pins σ Q) X.xe s
noncomputable def CallR (X:Cx) (f:Value) (r:List V→Hp→VK→Prop):Prop:=
  ∀ (pins:List (Addr × Obj)) (s:Shared) (σ:St) (H:Hp) (xs:List V) (us:List Value) (Q:VK),Inv X pins σ H s→Vals xs us→r xs H Q→
    wpAny (model X.prog X.w) X.A (call f us) (EP X pins σ Q) X.xe s
noncomputable def TruR (X:Cx) (r:V→Hp→(Bool→Hp→Prop)→Prop):Prop:=
  ∀ (pins:List (Addr × Obj)) (s:Shared) (σ:St) (H:Hp) (x:V) (v:Value) (Q:Bool→Hp→Prop),Inv X pins σ H s→RelV x v→r x H Q→
    wpAny (model X.prog X.w) X.A (truthy v) (TP X pins σ Q) X.xe s
noncomputable def tOp (r:R2) (ta tb:TE):TE:=fun σ H Q=>ta σ H fun x H1=>tb σ H1 fun y H2=>r x y H2 Q
noncomputable def tUn (r:V→Hp→VK→Prop) (ta:TE):TE:=fun σ H Q=>ta σ H fun x H1=>r x H1 Q
noncomputable def rI (C:Int→Int→Prop) (g:Int→Int→V):R2:=fun x y H Q=>∃ i j,x= .int i∧y= .int j∧C i j∧Q (g i j) H
noncomputable def rI0 (g:Int→Int→V):R2:=fun x y H Q=>∃ i j,x= .int i∧y= .int j∧Q (g i j) H
noncomputable def rU (g:Int→V):V→Hp→VK→Prop:=fun x H Q=>∃ i,x= .int i∧Q (g i) H
section
variable {X:Cx} {a b c:Expr} {ta tb tc:TE} {pos:Pos}
theorem binT (ha:PE X a ta) (hb:PE X b tb) {pins:List (Addr × Obj)} {s:Shared} {σ:St} {H:Hp} {R:V→V→Hp→Prop} (I:Inv X pins σ H s)
    (h:ta σ H fun x H1=>tb σ H1 fun y H2=>R x y H2) {Q:Value→Shared→Prop} {f:Value→Value→Sem Value}
    (hf:∀ v u s2 x y H2,Inv X pins σ H2 s2→RelV x v→RelV y u→R x y H2→wpAny (model X.prog X.w) X.A (f v u) Q X.xe s2):
    wpAny (model X.prog X.w) X.A (eval a X.env) (fun v s₁=>wpAny (model X.prog X.w) X.A (eval b X.env) (fun u s₂=>wpAny (model X.prog X.w) X.A (f v u) Q X.xe s₂) X.xe s₁) X.xe s:=by
  refine thn (ha pins s σ H _ I h) fun v s1 ⟨x,H1,I1,r1,q1⟩=> ?_
  refine thn (hb pins s1 σ H1 _ I1 q1) fun u s2 ⟨y,H2,I2,r2,q2⟩=> ?_
  exact hf v u s2 x y H2 I2 r1 r2 q2
theorem pe_op {op:Operator} {r:R2} (ho:OpR X (binaryOp op) r) (ha:PE X a ta) (hb:PE X b tb):PE X (.BinOp a op b pos) (tOp r ta tb):=by
  intro pins s σ H Q I h
  exact wpAny_BinOp (binT ha hb I h fun v u s2 x y H2 I2 rx ry q=>ho pins s2 σ H2 x y v u Q I2 rx ry q)
theorem pe_un {op:UnaryOp} {r:V→Hp→VK→Prop} (ho:UnR X (unaryOp op) r) (ha:PE X a ta):PE X (.UnaryOp op a pos) (tUn r ta):=by
  intro pins s σ H Q I h
  exact UnaryOp_ (thn (ha pins s σ H _ I h) fun v s1 ⟨x,H1,I1,r1,q1⟩=>ho pins s1 σ H1 x v Q I1 r1 q1)
theorem opI {f:Value→Value→Sem Value} {C:Int→Int→Prop} {g:Int→Int→Int}
    (rule:∀ (i j:Int) (t u:Tok) (s:Shared) (Q:Value→Shared→Prop) (E:Value→Shared→Prop),C i j→Q (.int (g i j) s.toks) { s with toks:=s.toks+1 }→wpAny (model X.prog X.w) X.A (f (.int i t) (.int j u)) Q E s):
    OpR X f (rI C fun i j=> .int (g i j)):=by
  intro pins s σ H x y v u Q I rx ry h
  obtain ⟨i,j,rfl,rfl,hc,q⟩:=h
  obtain ⟨t,rfl⟩:=rx
  obtain ⟨t',rfl⟩:=ry
  exact rule i j t t' s _ _ hc ⟨.int (g i j),H,I.tok _,⟨_,rfl⟩,q⟩
theorem opI0 {f:Value→Value→Sem Value} {g:Int→Int→Int}
    (rule:∀ (i j:Int) (t u:Tok) (s:Shared) (Q:Value→Shared→Prop) (E:Value→Shared→Prop),Q (.int (g i j) s.toks) { s with toks:=s.toks+1 }→wpAny (model X.prog X.w) X.A (f (.int i t) (.int j u)) Q E s):
    OpR X f (rI0 fun i j=> .int (g i j)):=by
  intro pins s σ H x y v u Q I rx ry h
  obtain ⟨i,j,rfl,rfl,q⟩:=h
  obtain ⟨t,rfl⟩:=rx
  obtain ⟨t',rfl⟩:=ry
  exact rule i j t t' s _ _ ⟨.int (g i j),H,I.tok _,⟨_,rfl⟩,q⟩
theorem opB0 {f:Value→Value→Sem Value} {g:Int→Int→Bool}
    (rule:∀ (i j:Int) (t u:Tok) (s:Shared) (Q:Value→Shared→Prop) (E:Value→Shared→Prop),Q (.bool (g i j)) s→wpAny (model X.prog X.w) X.A (f (.int i t) (.int j u)) Q E s):
    OpR X f (rI0 fun i j=> .bl (g i j)):=by
  intro pins s σ H x y v u Q I rx ry h
  obtain ⟨i,j,rfl,rfl,q⟩:=h
  obtain ⟨t,rfl⟩:=rx
  obtain ⟨t',rfl⟩:=ry
  exact rule i j t t' s _ _ ⟨.bl (g i j),H,I,rfl,q⟩
noncomputable def CPow (i j:Int):Prop:=0≤j∧j≤1000000∧i.natAbs<2 ^ 64
noncomputable def CMul (i j:Int):Prop:=(-(2 ^ 64)<i∧i<2 ^ 64)∨(-(2 ^ 64)<j∧j<2 ^ 64)
theorem CMul.ok {i j:Int} (h:CMul i j):IntMulOk i j:=by
  rcases h with ⟨h1,h2⟩ | ⟨h1,h2⟩
  · exact .of_left (intBits_le_64 h1 h2)
  · exact .of_right (intBits_le_64 h1 h2)
theorem two_pow_nn (k:Nat):(0:Int)≤2 ^ k:=by
  rw [two_pow_cast]
  exact Int.natCast_nonneg _
theorem op_add:OpR X (binaryOp .Add) (rI0 fun i j=> .int (i+j)):=opI0 fun _ _ _ _ _ _ _ q=>add_int q
theorem op_sub:OpR X (binaryOp .Sub) (rI0 fun i j=> .int (i - j)):=opI0 fun _ _ _ _ _ _ _ q=>sub_int q
theorem op_mul:OpR X (binaryOp .Mult) (rI CMul fun i j=> .int (i*j)):=opI fun _ _ _ _ _ _ _ hc q=>mul_int q hc.ok
theorem op_mod:OpR X (binaryOp .Mod) (rI (fun _ j=>0<j) fun i j=> .int (i%j)):=opI fun i j _ _ _ _ _ hc q=>by
  have h1:(0:Int)<j:=hc
  exact mod_int' (by omega) (by rw [Int.fmod_eq_emod_of_nonneg i (by omega)];exact q)
theorem op_shl:OpR X (binaryOp .LShift) (rI CPow fun i j=> .int (i*2 ^ j.toNat)):=opI fun _ _ _ _ _ _ _ hc q=>lshift_int_small hc.1 hc.2.1 hc.2.2 q
theorem op_shr:OpR X (binaryOp .RShift) (rI (fun _ j=>0≤j) fun i j=> .int (i / 2 ^ j.toNat)):=opI fun i j _ _ _ _ _ hc q=>
  rshift_int hc (by rw [Int.fdiv_eq_ediv_of_nonneg i (two_pow_nn _)];exact q)
theorem op_and:OpR X (binaryOp .BitAnd) (rI0 fun i j=> .int (Builtin.bitAnd i j)):=opI0 fun _ _ _ _ _ _ _ q=>and_int q
theorem op_or:OpR X (binaryOp .BitOr) (rI0 fun i j=> .int (Builtin.bitOr i j)):=opI0 fun _ _ _ _ _ _ _ q=>or_int q
theorem op_xor:OpR X (binaryOp .BitXor) (rI0 fun i j=> .int (Builtin.bitXor i j)):=opI0 fun _ _ _ _ _ _ _ q=>xor_int q
theorem iop_or:OpR X (inplaceOp .BitOr) (rI0 fun i j=> .int (Builtin.bitOr i j)):=opI0 fun _ _ _ _ _ _ _ q=>ior_int q
theorem iop_xor:OpR X (inplaceOp .BitXor) (rI0 fun i j=> .int (Builtin.bitXor i j)):=opI0 fun _ _ _ _ _ _ _ q=>ixor_int q
theorem unI {f:Value→Sem Value} {g:Int→Int}
    (rule:∀ (i:Int) (t:Tok) (s:Shared) (Q:Value→Shared→Prop) (E:Value→Shared→Prop),Q (.int (g i) s.toks) { s with toks:=s.toks+1 }→wpAny (model X.prog X.w) X.A (f (.int i t)) Q E s):
    UnR X f (rU fun i=> .int (g i)):=by
  intro pins s σ H x v Q I rx h
  obtain ⟨i,rfl,q⟩:=h
  obtain ⟨t,rfl⟩:=rx
  exact rule i t s _ _ ⟨.int (g i),H,I.tok _,⟨_,rfl⟩,q⟩
theorem un_inv:UnR X (unaryOp .Invert) (rU fun i=> .int (Builtin.bitNot i)):=unI fun _ _ _ _ _ q=>invert_int q
end
noncomputable def scal:V→V→Bool
  | .non, .non=>true | .non, .int _=>true | .int _, .non=>true | .non, .bl _=>true | .bl _, .non=>true | .non, .str _=>true | .str _, .non=>true
  | .int _, .int _=>true | .bl _, .bl _=>true | .str _, .str _=>true | .byt _, .byt _=>true
  | .int _, .str _=>true | .str _, .int _=>true | .bl _, .str _=>true | .str _, .bl _=>true
  | _,_=>false
noncomputable def rEq:R2:=fun x y H Q=>scal x y=true∧Q (.bl (decide (x=y))) H
noncomputable def rNe:R2:=fun x y H Q=>scal x y=true∧Q (.bl (!decide (x=y))) H
theorem dec_int {i j:Int}:decide (V.int i=V.int j)=(i == j):=by
  rw [Bool.eq_iff_iff]
  simp
theorem dec_bl {i j:Bool}:decide (V.bl i=V.bl j)=(i == j):=by
  rw [Bool.eq_iff_iff]
  simp
theorem dec_str {i j:Str}:decide (V.str i=V.str j)=(i == j):=by
  rw [Bool.eq_iff_iff]
  simp
theorem dec_byt {i j:Array UInt8}:decide (V.byt i=V.byt j)=(i.toList == j.toList):=by
  rw [Bool.eq_iff_iff]
  cases i
  cases j
  simp
section
variable {X:Cx} {a b c:Expr} {ta tb tc:TE} {pos:Pos}
theorem fin_bl {pins:List (Addr × Obj)} {σ:St} {H:Hp} {s:Shared} {Q:VK} {k k':Bool} (I:Inv X pins σ H s) (q:Q (.bl k) H) (e:k=k'):EP X pins σ Q (.bool k') s:=by
  subst e
  exact ⟨.bl k,H,I,rfl,q⟩
theorem op_eq:OpR X (compareOp .Eq) rEq:=by
  intro pins s σ H x y v u Q I rx ry h
  obtain ⟨hs,q⟩:=h
  cases x with
  | non=>
    cases rx
    cases y with
    | non=>cases ry;exact PySem.EqNone.eq_none_none (fin_bl I q (by simp))
    | bl j=>cases ry;exact PySem.EqNone.eq_none_bool (fin_bl I q (by simp))
    | int j=>obtain ⟨t',rfl⟩:=ry;exact PySem.EqNone.eq_none_int (fin_bl I q (by simp))
    | str j=>obtain ⟨t',rfl⟩:=ry;exact PySem.EqNone.eq_none_str (fin_bl I q (by simp))
    | _=>exact absurd (show false=true from hs) Bool.false_ne_true
  | bl i=>
    cases rx
    cases y with
    | non=>cases ry;exact PySem.EqNone.eq_bool_none (fin_bl I q (by simp))
    | bl j=>cases ry;exact eq_bool (fin_bl I q dec_bl)
    | str j=>obtain ⟨t',rfl⟩:=ry;exact PySem.EqMixed.eq_bool_str (fin_bl I q (by simp))
    | _=>exact absurd (show false=true from hs) Bool.false_ne_true
  | int i=>
    obtain ⟨t,rfl⟩:=rx
    cases y with
    | non=>cases ry;exact PySem.EqNone.eq_int_none (fin_bl I q (by simp))
    | int j=>obtain ⟨t',rfl⟩:=ry;exact eq_int (fin_bl I q dec_int)
    | str j=>obtain ⟨t',rfl⟩:=ry;exact PySem.EqMixed.eq_int_str (fin_bl I q (by simp))
    | _=>exact absurd (show false=true from hs) Bool.false_ne_true
  | str i=>
    obtain ⟨t,rfl⟩:=rx
    cases y with
    | non=>cases ry;exact PySem.EqNone.eq_str_none (fin_bl I q (by simp))
    | bl j=>cases ry;exact PySem.EqMixed.eq_str_bool (fin_bl I q (by simp))
    | int j=>obtain ⟨t',rfl⟩:=ry;exact PySem.EqMixed.eq_str_int (fin_bl I q (by simp))
    | str j=>obtain ⟨t',rfl⟩:=ry;exact eq_str (fin_bl I q dec_str)
    | _=>exact absurd (show false=true from hs) Bool.false_ne_true
  | byt i=>
    obtain ⟨t,rfl⟩:=rx
    cases y with
    | byt j=>obtain ⟨t',rfl⟩:=ry;exact PySem.W.eq_bytes (fin_bl I q dec_byt)
    | _=>exact absurd (show false=true from hs) Bool.false_ne_true
  | _=>cases y <;> exact absurd (show false=true from hs) Bool.false_ne_true
theorem op_ne:OpR X (compareOp .NotEq) rNe:=by
  intro pins s σ H x y v u Q I rx ry h
  obtain ⟨hs,q⟩:=h
  cases x with
  | non=>
    cases rx
    cases y with
    | non=>cases ry;exact PySem.EqNone.ne_none_none (fin_bl I q (by simp))
    | bl j=>cases ry;exact PySem.EqNone.ne_none_bool (fin_bl I q (by simp))
    | int j=>obtain ⟨t',rfl⟩:=ry;exact PySem.EqNone.ne_none_int (fin_bl I q (by simp))
    | str j=>obtain ⟨t',rfl⟩:=ry;exact PySem.EqNone.ne_none_str (fin_bl I q (by simp))
    | _=>exact absurd (show false=true from hs) Bool.false_ne_true
  | bl i=>
    cases rx
    cases y with
    | non=>cases ry;exact PySem.EqNone.ne_bool_none (fin_bl I q (by simp))
    | bl j=>cases ry;exact ne_bool (fin_bl I q (congrArg not dec_bl))
    | str j=>obtain ⟨t',rfl⟩:=ry;exact PySem.EqMixed.ne_bool_str (fin_bl I q (by simp))
    | _=>exact absurd (show false=true from hs) Bool.false_ne_true
  | int i=>
    obtain ⟨t,rfl⟩:=rx
    cases y with
    | non=>cases ry;exact PySem.EqNone.ne_int_none (fin_bl I q (by simp))
    | int j=>obtain ⟨t',rfl⟩:=ry;exact ne_int (fin_bl I q (congrArg not dec_int))
    | str j=>obtain ⟨t',rfl⟩:=ry;exact PySem.EqMixed.ne_int_str (fin_bl I q (by simp))
    | _=>exact absurd (show false=true from hs) Bool.false_ne_true
  | str i=>
    obtain ⟨t,rfl⟩:=rx
    cases y with
    | non=>cases ry;exact PySem.EqNone.ne_str_none (fin_bl I q (by simp))
    | bl j=>cases ry;exact PySem.EqMixed.ne_str_bool (fin_bl I q (by simp))
    | int j=>obtain ⟨t',rfl⟩:=ry;exact PySem.EqMixed.ne_str_int (fin_bl I q (by simp))
    | str j=>obtain ⟨t',rfl⟩:=ry;exact ne_str (fin_bl I q (congrArg not dec_str))
    | _=>exact absurd (show false=true from hs) Bool.false_ne_true
  | byt i=>
    obtain ⟨t,rfl⟩:=rx
    cases y with
    | byt j=>obtain ⟨t',rfl⟩:=ry;exact PySem.W.ne_bytes (fin_bl I q (congrArg not dec_byt))
    | _=>exact absurd (show false=true from hs) Bool.false_ne_true
  | _=>cases y <;> exact absurd (show false=true from hs) Bool.false_ne_true
theorem op_le:OpR X (compareOp .LtE) (rI0 fun i j=> .bl (decide (i≤j))):=opB0 fun _ _ _ _ _ _ _ q=>le_int q
theorem op_gt:OpR X (compareOp .Gt) (rI0 fun i j=> .bl (decide (j<i))):=opB0 fun _ _ _ _ _ _ _ q=>gt_int q
theorem op_in_str:OpR X (compareOp .In) (fun x y H Q=>∃ i j,x= .str i∧y= .str j∧Q (.bl (!(Builtin.Str.occurrences j i 0 j.length 1).isEmpty)) H):=by
  intro pins s σ H x y v u Q I rx ry h
  obtain ⟨i,j,rfl,rfl,q⟩:=h
  obtain ⟨t,rfl⟩:=rx
  obtain ⟨t',rfl⟩:=ry
  exact in_str (fin_bl I q rfl)
theorem op_notN:OpR X (compareOp .IsNot) (fun x y H Q=>y= .non∧Q (.bl (!decide (x= .non))) H):=by
  intro pins s σ H x y v u Q I rx ry h
  obtain ⟨rfl,q⟩:=h
  cases ry
  refine isnot_none_gen (fin_bl I q ?_)
  cases x <;> first
    | (cases rx;rfl)
    | (obtain ⟨t,rfl⟩:=rx;rfl)
theorem nomark (b:Expr) {op:CmpOp} (h:op≠ .In:=by decide) (h2:op≠ .NotIn:=by decide):behindInMarks op b=false:=by
  have e1:(op == CmpOp.In)=false:=by cases op <;> first | rfl | exact absurd rfl h
  have e2:(op == CmpOp.NotIn)=false:=by cases op <;> first | rfl | exact absurd rfl h2
  cases b <;> simp [behindInMarks,e1,e2]
theorem pe_cmpR {op:CmpOp} {r:R2} (ho:OpR X (compareOp op) r) (ha:PE X a ta) (hb:PE X b tb) (hm:behindInMarks op b=false):PE X (.Compare a [op] [b] pos) (tOp r ta tb):=by
  intro pins s σ H Q I h
  exact wpAny_Compare1 (binT ha hb I h fun v u s2 x y H2 I2 rx ry q=>ho pins s2 σ H2 x y v u Q I2 rx ry q) hm
noncomputable def tTest (t:TE):TT:=fun σ H Q=>t σ H fun x H'=>∃ k,x= .bl k∧Q k H'
theorem pt_cmpR {op:CmpOp} {r:R2} (ho:OpR X (compareOp op) r) (ha:PE X a ta) (hb:PE X b tb) (hm:behindInMarks op b=false):PT X (.Compare a [op] [b] pos) (tTest (tOp r ta tb)):=by
  intro pins s σ H Q I h
  refine wpAny_isTrue_Compare1 (thn (ha pins s σ H _ I h) fun v s1 ⟨x,H1,I1,r1,q1⟩=>thn (hb pins s1 σ H1 _ I1 q1) fun u s2 ⟨y,H2,I2,r2,q2⟩=>
    thn (ho pins s2 σ H2 x y v u _ I2 r1 r2 q2) fun c s3 ⟨z,H3,I3,r3,k,e,q3⟩=> ?_) hm
  subst e
  cases r3
  exact wpAny_truthy_bool ⟨H3,I3,q3⟩
noncomputable def tChain (r r':R2) (ta tb tc:TE):TE:=fun σ H Q=>ta σ H fun x H1=>tb σ H1 fun y H2=>r x y H2 fun z H3=>∃ k,z= .bl k∧
  (if k=true then tc σ H3 fun w' H4=>r' y w' H4 Q else Q (.bl false) H3)
theorem pe_chain {op op':CmpOp} {r r':R2} (ho:OpR X (compareOp op) r) (ho':OpR X (compareOp op') r') (ha:PE X a ta) (hb:PE X b tb) (hc:PE X c tc)
    (hm:lastMarks [op,op'] [b,c]=false:=by with_unfolding_all rfl):PE X (.Compare a [op,op'] [b,c] pos) (tChain r r' ta tb tc):=by
  intro pins s σ H Q I h
  refine Compare_chain (thn (ha pins s σ H _ I h) fun v s1 ⟨x,H1,I1,r1,q1⟩=>chain_link (thn (hb pins s1 σ H1 _ I1 q1) fun u s2 ⟨y,H2,I2,r2,q2⟩=>
    thn (ho pins s2 σ H2 x y v u _ I2 r1 r2 q2) fun d s3 ⟨z,H3,I3,r3,k,e,q3⟩=> ?_)) hm
  subst e
  cases r3
  refine wpAny_truthy_bool ?_
  cases k with
  | false=>exact ite_ff ⟨.bl false,H3,I3,rfl,q3⟩
  | true=>exact ite_tt (chain_last (thn (hc pins s3 σ H3 _ I3 q3) fun w' s4 ⟨z',H4,I4,r4,q4⟩=>ho' pins s4 σ H4 y z' u w' Q I4 r2 r4 q4))
noncomputable def TruV (K:PySem.W.Frag) (x:V) (H:Hp) (k:Bool):Prop:=
  match x with
  | .non=>k=false
  | .bl b=>k=b
  | .int i=>k=(i != 0)
  | .str y=>y.length≤sizeLine∧k=((y.length:Int) != 0)
  | .byt y=>y.size≤sizeLine∧k=((y.size:Int) != 0)
  | .ref p=>(∃ xs,SqL K H p xs∧k= !xs.isEmpty)∨(∃ xs,SqT K H p xs∧k= !xs.isEmpty)∨∃ kvs,H p=some (.dK kvs)∧k= !kvs.isEmpty
  | _=>False
theorem isEmpty_kv {κ:Type} {kvs:List (κ × V)} {vs:List (κ × Value)} (r:KV kvs vs):(!vs.isEmpty)= !kvs.isEmpty:=by
  cases r <;> rfl
theorem isEmpty_of {xs:List V} {its:List Value} (r:Vals xs its):(!its.toArray.isEmpty)= !xs.isEmpty:=by
  cases r <;> simp
theorem line63:(sizeLine:Nat)<2 ^ 63:=by rw [sizeLine_eq];decide
theorem tru_ok:TruR X (fun x H Q=>∃ k,TruV X.K x H k∧Q k H):=by
  intro pins s σ H x v Q I rx h
  obtain ⟨k,e,q⟩:=h
  have hl:=line63
  have hs:sizeLine=16777216:=sizeLine_eq
  cases x with
  | non=>
    cases rx
    have e':k=false:=e
    subst e'
    exact truthy_none ⟨H,I,q⟩
  | bl b=>
    cases rx
    have e':k=b:=e
    subst e'
    exact wpAny_truthy_bool ⟨H,I,q⟩
  | int i=>
    obtain ⟨t,rfl⟩:=rx
    have e':k=(i != 0):=e
    subst e'
    exact PySem.P.truthy_int ⟨H,I,q⟩
  | str y=>
    obtain ⟨t,rfl⟩:=rx
    obtain ⟨hy,e'⟩:y.length≤sizeLine∧k=((y.length:Int) != 0):=e
    subst e'
    exact PySem.P.truthy_str (by omega) ⟨H,I.tok _,q⟩
  | byt y=>
    obtain ⟨t,rfl⟩:=rx
    obtain ⟨hy,e'⟩:y.size≤sizeLine∧k=((y.size:Int) != 0):=e
    subst e'
    exact PySem.W.truthy_bytes (by omega) ⟨H,I.tok _,q⟩
  | ref p=>
    cases rx
    have e':(∃ xs,SqL X.K H p xs∧k= !xs.isEmpty)∨(∃ xs,SqT X.K H p xs∧k= !xs.isEmpty)∨∃ kvs,H p=some (.dK kvs)∧k= !kvs.isEmpty:=e
    rcases e' with ⟨xs,hx,e'⟩ | ⟨xs,hx,e'⟩ | ⟨kvs,hx,e'⟩
    · subst e'
      obtain ⟨its,r,pl,hz⟩:=I.list hx
      have hlen:=r.length
      exact wpAny_truthy_list pl.isList (by simp only [List.size_toArray];omega) ⟨H,I.tok _,by rw [isEmpty_of r];exact q⟩
    · subst e'
      obtain ⟨its,r,pl,hz⟩:=I.tuple hx
      have hlen:=r.length
      exact truthy_tuple pl (by simp only [List.size_toArray];omega) ⟨H,I.tok _,by rw [isEmpty_of r];exact q⟩
    · subst e'
      obtain ⟨hz,hS,vs,r,m⟩:kvs.length≤sizeLine∧(p == sysModules)=false∧∃ vs,KV kvs vs∧s.heap.DictOf (mixKind X.prog X.w) p vs:=I.hok p _ hx
      have hlen:kvs.length=vs.length:=Paired.length r
      exact wpAny_truthy_dict hS m (by omega) ⟨H,I.tok _,by rw [isEmpty_kv r];exact q⟩
  | _=>exact (show False from e).elim
theorem vals1 {x:V} {us:List Value} (r:Vals [x] us):∃ u,us=[u]∧RelV x u:=by
  cases r with
  | cons r1 r2=>cases r2;exact ⟨_,rfl,r1⟩
theorem vals2 {x y:V} {us:List Value} (r:Vals [x,y] us):∃ u w',us=[u,w']∧RelV x u∧RelV y w':=by
  cases r with
  | cons r1 r2=>
    cases r2 with
    | cons r3 r4=>cases r4;exact ⟨_,_,rfl,r1,r3⟩
theorem call_int1:CallR X (.type "int") (fun xs H Q=>(∃ i,xs=[.int i]∧Q (.int i) H)∨∃ k,xs=[.bl k]∧Q (.int (if k then 1 else 0)) H):=by
  intro pins s σ H xs us Q I r h
  rcases h with ⟨i,rfl,q⟩ | ⟨k,rfl,q⟩
  · obtain ⟨u,rfl,t,rfl⟩:=vals1 r
    exact call_int_int ⟨.int i,H,I,⟨_,rfl⟩,q⟩
  · obtain ⟨u,rfl,r1⟩:=vals1 r
    cases r1
    exact call_int_bool ⟨.int (if k then 1 else 0),H,I.tok _,⟨_,rfl⟩,q⟩
noncomputable def LenV (K:PySem.W.Frag) (x:V) (H:Hp) (n:Nat):Prop:=
  match x with
  | .str y=>y.length≤sizeLine∧n=y.length
  | .byt y=>y.size≤sizeLine∧n=y.size
  | .ref p=>(∃ xs,SqL K H p xs∧n=xs.length)∨∃ xs,SqT K H p xs∧n=xs.length
  | _=>False
theorem call_len:CallR X (.builtin "len") (fun xs H Q=>∃ x n,xs=[x]∧LenV X.K x H n∧Q (.int n) H):=by
  intro pins s σ H xs us Q I r h
  obtain ⟨x,n,rfl,e,q⟩:=h
  obtain ⟨u,rfl,rx⟩:=vals1 r
  have hl:=line63
  have hs:sizeLine=16777216:=sizeLine_eq
  cases x with
  | str y=>
    obtain ⟨t,rfl⟩:=rx
    obtain ⟨hy,e'⟩:y.length≤sizeLine∧n=y.length:=e
    subst e'
    exact len_str (by omega) ⟨.int _,H,I.tok _,⟨_,rfl⟩,q⟩
  | byt y=>
    obtain ⟨t,rfl⟩:=rx
    obtain ⟨hy,e'⟩:y.size≤sizeLine∧n=y.size:=e
    subst e'
    exact PySem.W.len_bytes (by omega) ⟨.int _,H,I.tok _,⟨_,rfl⟩,q⟩
  | ref p=>
    cases rx
    have e':(∃ xs,SqL X.K H p xs∧n=xs.length)∨∃ xs,SqT X.K H p xs∧n=xs.length:=e
    rcases e' with ⟨xs,hx,e'⟩ | ⟨xs,hx,e'⟩
    · subst e'
      obtain ⟨its,r',pl,hz⟩:=I.list hx
      have hlen:=r'.length
      exact Calls.call_len_list pl.isList (by simp only [List.size_toArray];omega) ⟨.int xs.length,H,I.tok _,⟨_,by simp only [List.size_toArray];rw [hlen]⟩,q⟩
    · subst e'
      obtain ⟨its,r',pl,hz⟩:=I.tuple hx
      have hlen:=r'.length
      exact len_tuple pl (by simp only [List.size_toArray];omega) ⟨.int xs.length,H,I.tok _,⟨_,by simp only [List.size_toArray];rw [hlen]⟩,q⟩
  | _=>exact (show False from e).elim
end
end L2
namespace L2
open PySem PySem.Spec PyProof.Rows
structure ObjM (h:Heap) (x dx C:Addr) (mA:Str→Option Value):Prop where
  obj:h.get? x=some (PySem.W.instObj C dx)
  ns:h.Ns1 dx mA
  ne:dx≠x
theorem lookIn_ns {h:Heap} {dx:Addr} {mA:Str→Option Value} (n:h.Ns1 dx mA):∃ od,h.get? dx=some od∧∀ name,PySem.W.lookIn name od=some (mA name):=by
  obtain ⟨o,es,ep,ho,hd,hk,_,hm⟩:=n
  refine ⟨o,ho,fun name=> ?_⟩
  have e:=hm name
  unfold nsFind findBy at e
  rw [← Array.find?_toList] at e
  unfold PySem.W.lookIn
  rw [hd]
  dsimp only
  split
  · rename_i y q
    rw [q] at e
    exact congrArg some e
  · rename_i q
    rw [q] at e
    have a:es.toList.any (·.refKey)=false:=by
      rw [List.any_eq_false]
      intro y hy
      obtain ⟨z,t,hkey⟩:=hk y (Array.mem_toList_iff.mp hy)
      simp [DictEntry.refKey,hkey]
    have a':¬ es.toList.any (·.refKey)=true:=by rw [a];exact Bool.false_ne_true
    rw [if_neg a']
    exact congrArg some e
theorem ObjM.look {h:Heap} {x dx C:Addr} {mA:Str→Option Value} (I:ObjM h x dx C mA):∃ od,PySem.W.InstAt h x (PySem.W.instObj C dx) C (some od)∧∀ name,PySem.W.lookIn name od=some (mA name):=
  let ⟨od,ho,hl⟩:=lookIn_ns I.ns
  ⟨od,⟨I.obj,rfl,rfl,ho⟩,hl⟩
section
variable {prog:Program} {w:World} {A:Around} {E:Value→Shared→Prop} {s:Shared} {K:PySem.W.Frag} {x dx C f:Addr} {mA:Str→Option Value} {name:Str} {v:Value}
theorem get_map {expr:Bool} {Q:Value→Shared→Prop} (X:K.In s.heap) (I:ObjM s.heap x dx C mA) (hg:PySem.W.plainGet K C name=true) (hh:PySem.W.hasDictIn K C=true)
    (ha:PySem.W.findIn K (.ref C) name=some none) (hv:mA name=some v) (hv':PySem.W.handedIn v=true) (h:Q v { s with toks:=s.toks+1 }):
    wpAny (model prog w) A (getAttr (.ref x) name expr) Q E s:=by
  obtain ⟨od,J,hl⟩:=I.look
  exact PySem.W.get_value X J (PySem.W.plainGet_of hg).1 (PySem.W.findObj_own hh ha rfl (by rw [hl,hv])) hv' h
theorem get_meth {pl:Sem Bool} {Q:Value × List Value→Shared→Prop} (X:K.In s.heap) (I:ObjM s.heap x dx C mA) (hg:PySem.W.plainGet K C name=true)
    (hf:PySem.W.findIn K (.ref C) name=some (some (.ref f))) (ht:PySem.W.isFn K (.ref f)=true) (hv:mA name=none) (h:Q (.ref f,[.ref x]) s):
    wpAny (model prog w) A (getMethod (.ref x) name pl) Q E s:=by
  obtain ⟨od,J,hl⟩:=I.look
  exact PySem.W.method_fn X J (PySem.W.plainGet_of hg).1 (PySem.W.plainGet_of hg).2 hf (beq_iff_eq.mp ht) (by show (PySem.W.lookIn name od).map (·.isSome)=some false;rw [hl,hv];rfl) h
theorem set_map {ns:List Str} {Q:Unit→Shared→Prop} (X:K.In s.heap) (I:ObjM s.heap x dx C mA)
    (hs:PySem.W.findIn K (.ref C) "__setattr__"=some (some (.builtin "object.__setattr__"))) (hp:PySem.W.plainOver K C=true) (ht:PySem.W.takerIn K C name=some none) (hh:PySem.W.hasDictIn K C=true)
    (hw:PySem.Within mA ns) (hsz:ns.length≤sizeLine)
    (h:∀ h',ObjM h' x dx C (fun y=>if y=name then some v else mA y)→Heap.SameBut dx s.heap h'→Q () { s with heap:=h',toks:=s.toks+2 }):
    wpAny (model prog w) A (setAttr (.ref x) name v) Q E s:=by
  obtain ⟨od,J,hl⟩:=I.look
  refine PySem.W.set_plain X J hs (PySem.W.osa_open (s:={ s with toks:=s.toks+1 }) (r:=none) X J hp ht fun b=> ?_)
  obtain ⟨cd,hc,hd'⟩:=PySem.W.any_some hh
  have hx:s.heap.get? x=some ⟨.ref C,some dx, .plain, #[]⟩:=I.obj
  refine wpAny_bind (wpAny_pure (wpAny_bind (wpAny_bind (wpAny_loadPart hx (wpAny_bind (PySem.W.Looks.here (s:={ s with toks:=s.toks+1 }) (PySem.W.looks_clsIn X hc) ?_))))))
  rw [hd']
  refine wpAny_pure (a:=some dx) (wpAny_bind (wpAny_pure (wpAny_bind ?_)))
  refine wpAny_nsSet1 (s:={ s with toks:=s.toks+1 }) I.ns fun h' hn2 hs2=> ?_
  obtain ⟨oD,esD,epD,hoD,hdD,hcD⟩:=hn2.count (PySem.Within.cons name v hw)
  refine wpAny_bind (wpAny_lookBehind hoD (by rw [hdD];exact pastItsLine_dict (Nat.le_trans hcD (by rw [List.length_cons];omega))) ?_)
  exact wpAny_pure (h _ ⟨(hs2.2 _ (Ne.symm I.ne)).trans I.obj,hn2,I.ne⟩ hs2)
theorem make_map {R:Result→Shared→Prop} {vs:List Value} {kw:List (Str × Value)} (X:K.In s.heap) (hm:PySem.W.makesIn K C=true)
    (hi:PySem.W.findIn K (.ref C) "__init__"=some (some (.ref f))) (hf:PySem.W.typeIn K (.ref f)=some (.type "function"))
    (h:codeAny (model prog w) (A.under (.builtin "type.__call__" ⟨.ref C::vs,kw⟩)) (.call (.ref f) ⟨.ref (s.heap.objs.size+1)::vs,kw⟩) (PySem.W.InitBack (s.heap.objs.size+1) R)
      { s with heap:=(s.heap.push PySem.W.emptyDict).push (PySem.W.instObj C s.heap.objs.size) }):
    codeAny (model prog w) A (.call (.ref C) ⟨vs,kw⟩) R s:=by
  obtain ⟨hh,g,d,t,os⟩:=s
  exact PySem.W.make_core (PySem.W.makes_of X hm) (PySem.W.looks_findIn X hi) (fun self=>PySem.W.bind_fn X self hf) (.inl rfl) h
end
noncomputable def putF (f:Str) (v:V):List (Str × V)→List (Str × V)
  | []=>[(f,v)]
  | (g,x)::r=>if g=f then (g,v)::r else (g,x)::putF f v r
theorem lookup_putF (f g:Str) (v:V):∀ fs:List (Str × V),(putF f v fs).lookup g=if g=f then some v else fs.lookup g
  | []=>by
    show List.lookup g [(f,v)]=_
    by_cases h:g=f
    · have hb:(g == f)=true:=beq_iff_eq.mpr h
      simp only [List.lookup,hb,if_pos h]
    · have hb:(g == f)=false:=beq_eq_false_iff_ne.mpr h
      simp only [List.lookup,hb,if_neg h]
  | (k,x)::r=>by
    have ih:=lookup_putF f g v r
    rw [show putF f v ((k,x)::r)=(if k=f then (k,v)::r else (k,x)::putF f v r) from rfl]
    by_cases hk:k=f
    · rw [if_pos hk]
      by_cases h:g=k
      · have hb:(g == k)=true:=beq_iff_eq.mpr h
        simp only [List.lookup,hb,if_pos (h.trans hk)]
      · have hb:(g == k)=false:=beq_eq_false_iff_ne.mpr h
        simp only [List.lookup,hb,if_neg (fun e:g=f=>h (e.trans hk.symm))]
    · rw [if_neg hk]
      by_cases h:g=k
      · have hb:(g == k)=true:=beq_iff_eq.mpr h
        simp only [List.lookup,hb,if_neg (fun e:g=f=>hk (h.symm.trans e))]
      · have hb:(g == k)=false:=beq_eq_false_iff_ne.mpr h
        simp only [List.lookup,hb]
        exact ih
theorem keys_putF (f:Str) (v:V):∀ fs:List (Str × V),f∈(putF f v fs).map (·.1)∧∀ g,g∈fs.map (·.1)→g∈(putF f v fs).map (·.1)
  | []=>⟨by simp [putF],fun g h=>by simp at h⟩
  | (k,x)::r=>by
    obtain ⟨i1,i2⟩:=keys_putF f v r
    rw [show putF f v ((k,x)::r)=(if k=f then (k,v)::r else (k,x)::putF f v r) from rfl]
    by_cases hk:k=f
    · rw [if_pos hk]
      subst hk
      exact ⟨by simp,fun g h=>by simpa using h⟩
    · rw [if_neg hk]
      refine ⟨?_,fun g h=> ?_⟩
      · rw [List.map_cons]
        exact List.mem_cons_of_mem _ i1
      · rw [List.map_cons] at h ⊢
        rcases List.mem_cons.mp h with e | e
        · exact List.mem_cons.mpr (.inl e)
        · exact List.mem_cons_of_mem _ (i2 g e)
theorem length_putF (f:Str) (v:V):∀ fs:List (Str × V),(putF f v fs).length≤fs.length+1
  | []=>by simp [putF]
  | (k,x)::r=>by
    have ih:=length_putF f v r
    rw [show putF f v ((k,x)::r)=(if k=f then (k,v)::r else (k,x)::putF f v r) from rfl]
    by_cases hk:k=f
    · rw [if_pos hk,List.length_cons,List.length_cons];omega
    · rw [if_neg hk,List.length_cons,List.length_cons];omega
theorem RelO.some_of {v:V} {o:Option Value} (r:RelO (some v) o):∃ u,o=some u∧RelV v u:=by
  cases o with
  | none=>exact (show False from r).elim
  | some u=>exact ⟨u,rfl,r⟩
theorem RelO.none_of {o:Option Value} (r:RelO none o):o=none:=by
  cases o with
  | none=>rfl
  | some u=>exact (show False from r).elim
theorem handed_of {v:V} {u:Value} (r:RelV v u):PySem.W.handedIn u=true:=by
  cases v with
  | non=>cases (show u=Value.none from r);rfl
  | bl b=>cases (show u=Value.bool b from r);rfl
  | int i=>obtain ⟨t,e⟩:=(show ∃ t,u=Value.int i t from r);cases e;rfl
  | str x=>obtain ⟨t,e⟩:=(show ∃ t,u=Value.str x t from r);cases e;rfl
  | byt b=>obtain ⟨t,e⟩:=(show ∃ t,u=Value.bytes b t from r);cases e;rfl
  | flt b=>obtain ⟨t,e⟩:=(show ∃ t,u=Value.float b t from r);cases e;rfl
  | ref a=>cases (show u=Value.ref a from r);rfl
  | ty n=>cases (show u=Value.type n from r);rfl
section
variable {P:Program} {w:World} {H H':Hp} {h h':Heap} {a C dx:Addr} {fs fs':List (Str × V)}
theorem ins_get (hok:HOk P w H h) (e:H a=some (.ins C dx fs)):∃ mA,ObjM h a dx C mA∧(∀ f,RelO (fs.lookup f) (mA f))∧PySem.Within mA (fs.map (·.1))∧fs.length≤1000∧H dx=some (.own a):=by
  obtain ⟨d,z,ne,ob,mA,n,r,q⟩:=(show ObjOk P w H h a (.ins C dx fs) from hok a _ e)
  exact ⟨mA,⟨ob,n,ne⟩,r,q,z,d⟩
end
structure Cls (K:PySem.W.Frag) (C:Addr):Prop where
  pg:PySem.W.plainGet K C Str.empty=true
  hd:PySem.W.hasDictIn K C=true
  po:PySem.W.plainOver K C=true
  sa:PySem.W.findIn K (.ref C) "__setattr__"=some (some (.builtin "object.__setattr__"))
theorem Cls.get {K:PySem.W.Frag} {C:Addr} (c:Cls K C) (f:Str):PySem.W.plainGet K C f=true:=c.pg
noncomputable def NoAttr (K:PySem.W.Frag) (C:Addr) (f:Str):Prop:=PySem.W.findIn K (.ref C) f=some none
theorem NoAttr.taker {K:PySem.W.Frag} {C:Addr} {f:Str} (n:NoAttr K C f):PySem.W.takerIn K C f=some none:=by
  unfold PySem.W.takerIn
  rw [show PySem.W.findIn K (.ref C) f=some none from n]
  rfl
structure Con (K:PySem.W.Frag) (C:Addr) (f:Str) (v:V) (u:Value):Prop where
  at_:PySem.W.findIn K (.ref C) f=some (some u)
  rel:RelV v u
  get:PySem.W.specialIn K u "__get__"=some none
  cp:PySem.W.copiedNames.contains f=false
structure Meth (K:PySem.W.Frag) (C:Addr) (m:Str) (f:Addr):Prop where
  at_:PySem.W.findIn K (.ref C) m=some (some (.ref f))
  fn:PySem.W.isFn K (.ref f)=true
  kp:PySem.W.keepIn K (.ref f)=true
section
variable {X:Cx} {pins:List (Addr × Obj)} {σ:St} {H:Hp} {s:Shared} {a C dx:Addr} {fs:List (Str × V)} {f:Str} {v:V} {A:Around} {E:Value→Shared→Prop}
theorem getattr_ok {b:Bool} {Q:Value→Shared→Prop} (I:Inv X pins σ H s) (e:H a=some (.ins C dx fs)) (c:Cls X.K C) (n:NoAttr X.K C f) (l:fs.lookup f=some v)
    (h:∀ u s',Inv X pins σ H s'→RelV v u→Q u s'):wpAny (model X.prog X.w) A (getAttr (.ref a) f b) Q E s:=by
  obtain ⟨mA,O,r,_,_,_⟩:=ins_get I.hok e
  obtain ⟨u,hu,ru⟩:=RelO.some_of (v:=v) (o:=mA f) (by rw [← l];exact r f)
  exact get_map I.kIn O (c.get f) c.hd n hu (handed_of ru) (h u _ (I.tok _) ru)
theorem getmeth_ok {m:Str} {g:Addr} {pl:Sem Bool} {Q:Value × List Value→Shared→Prop} (I:Inv X pins σ H s) (e:H a=some (.ins C dx fs)) (c:Cls X.K C) (k:Meth X.K C m g) (l:fs.lookup m=none)
    (h:Q (.ref g,[.ref a]) s):wpAny (model X.prog X.w) A (getMethod (.ref a) m pl) Q E s:=by
  obtain ⟨mA,O,r,_,_,_⟩:=ins_get I.hok e
  have hn:mA m=none:=RelO.none_of (by rw [← l];exact r m)
  exact get_meth I.kIn O (c.get m) k.at_ k.fn hn h
theorem setattr_ok {y:V} {u:Value} {Q:Unit→Shared→Prop} (I:Inv X pins σ H s) (e:H a=some (.ins C dx fs)) (c:Cls X.K C) (n:NoAttr X.K C f) (hl:fs.length<1000) (ry:RelV y u)
    (h:∀ s',Inv X pins σ (upd H a (.ins C dx (putF f y fs))) s'→Q () s'):wpAny (model X.prog X.w) A (setAttr (.ref a) f u) Q E s:=by
  obtain ⟨mA,O,r,wi,_,ho⟩:=ins_get I.hok e
  have hz:(fs.map (·.1)).length≤sizeLine:=by rw [List.length_map,sizeLine_eq];omega
  refine set_map I.kIn O c.sa c.po n.taker c.hd wi hz fun h' O' sb=>h _ ?_
  have hd:∃ o,h'.get? dx=some o:=let ⟨o,_,_,e',_⟩:=O'.ns;⟨o,e'⟩
  refine I.write (x:=a) (e:=dx) (by rw [e];exact True.intro) (.inr ho) (fun b q hb z=>(sb.2 b hb).trans z) hd ?_
  refine ⟨by rw [upd_ne O.ne];exact ho,?_,O.ne,O'.obj,_,O'.ns,fun g=> ?_,fun g hg=> ?_⟩
  · have:=length_putF f y fs;omega
  · show RelO ((putF f y fs).lookup g) (if g=f then some u else mA g)
    rw [lookup_putF]
    by_cases q:g=f
    · rw [if_pos q,if_pos q];exact ry
    · rw [if_neg q,if_neg q];exact r g
  · by_cases q:g=f
    · rw [q];exact (keys_putF f y fs).1
    · refine (keys_putF f y fs).2 g (wi g fun z=>hg ?_)
      show (if g=f then some u else mA g)=none
      rw [if_neg q];exact z
theorem Inv.made (I:Inv X pins σ H s):Inv X pins σ (upd (upd H s.heap.objs.size (.own (s.heap.objs.size+1))) (s.heap.objs.size+1) (.ins C s.heap.objs.size []))
    { s with heap:=(s.heap.push PySem.W.emptyDict).push (PySem.W.instObj C s.heap.objs.size) }:=by
  have e1:(s.heap.push PySem.W.emptyDict).get? s.heap.objs.size=some PySem.W.emptyDict:=Heap.get?_push_size s.heap rfl
  have e2:((s.heap.push PySem.W.emptyDict).push (PySem.W.instObj C s.heap.objs.size)).get? (s.heap.objs.size+1)=some (PySem.W.instObj C s.heap.objs.size):=by
    have:=Heap.get?_push_size (s.heap.push PySem.W.emptyDict) (o:=PySem.W.instObj C s.heap.objs.size) rfl
    rwa [Heap.size_push] at this
  have e3:(s.heap.push PySem.W.emptyDict).Ns s.heap.objs.size (fun _=>none):=⟨PySem.W.emptyDict, #[],_,e1,rfl,(fun e he=>absurd he (by simp)),fun _=>rfl⟩
  have I1:=I.laid (a:=s.heap.objs.size) (o:= .own (s.heap.objs.size+1)) (h':=s.heap.push PySem.W.emptyDict) (t':=s.toks) (fun b u q=>Heap.get?_push_of_some _ q) (Nat.le_refl _) ⟨_,e1⟩
  refine I1.laid (a:=s.heap.objs.size+1) (o:= .ins C s.heap.objs.size []) (t':=s.toks) (fun b u q=>Heap.get?_push_of_some _ q) (Nat.le_of_eq (Heap.size_push _ _)) ?_
  have ne:s.heap.objs.size≠s.heap.objs.size+1:=Nat.ne_of_lt (Nat.lt_succ_self _)
  refine ⟨by rw [upd_ne ne,upd_same],Nat.zero_le _,ne,e2,fun _=>none,(Heap.Ns1.of_empty e3).at fun o q=>Heap.get?_push_of_some _ q,fun _=>True.intro,fun y hy=>absurd rfl hy⟩
theorem attr_of {prog:Program} {w:World} {env:Env} {e:Expr} {f:Str} {pos:Pos} {s:Shared} {Q:Value→Shared→Prop} (hb:attributeBase e f env (eval e env)=eval e env)
    (h:wpAny (model prog w) A (eval e env) (fun o s₁=>wpAny (model prog w) A (getAttr o f true) Q E s₁) E s):wpAny (model prog w) A (eval (.Attribute e f pos) env) Q E s:=
  Attribute_any_ h (by rw [arm_eval_Attribute,hb])
end
noncomputable def tFld (K:PySem.W.Frag) (ta:TE) (f:Str):TE:=fun σ H Q=>ta σ H fun x H1=>∃ a C dx fs v,x= .ref a∧H1 a=some (.ins C dx fs)∧Cls K C∧NoAttr K C f∧fs.lookup f=some v∧Q v H1
noncomputable def sFld (K:PySem.W.Frag) (ta tv:TE) (f:Str):TS:=fun D σ H=>tv σ H fun y H1=>ta σ H1 fun x H2=>∃ a C dx fs,x= .ref a∧H2 a=some (.ins C dx fs)∧Cls K C∧NoAttr K C f∧fs.length<1000∧
  D.nx σ (upd H2 a (.ins C dx (putF f y fs)))
section
variable {X:Cx} {o e value:Expr} {f:Str} {pos pos' tpos:Pos} {ta tv:TE}
theorem pe_fld (he:PE X e ta) (hb:attributeBase e f X.env (eval e X.env)=eval e X.env):PE X (.Attribute e f pos) (tFld X.K ta f):=by
  intro pins s σ H Q I h
  refine attr_of hb (thn (he pins s σ H _ I h) fun u s1 ⟨x,H1,I1,rx,a,C,dx,fs,v,ex,ea,c,n,l,q⟩=> ?_)
  subst ex
  obtain rfl:u=Value.ref a:=rx
  exact getattr_ok I1 ea c n l fun u' s2 I2 ru=>⟨v,H1,I2,ru,q⟩
theorem ps_fld (ha:PE X o ta) (hv:PE X value tv) (hs:swapsWith value (some (.Attribute o f pos')) pos.line X.env=pure false):PS X (.Assign [.Attribute o f pos'] value pos) (sFld X.K ta tv f):=by
  intro pins s σ H D I h
  refine plainObj_wpAny_Assign_Attribute (thn (hv pins s σ H _ I h) fun u s1 ⟨y,H1,I1,ry,q⟩=>thn (ha pins s1 σ H1 _ I1 q) fun ov s2 ⟨x,H2,I2,rx,a,C,dx,fs,ex,ea,c,n,l,q2⟩=> ?_) hs
  subst ex
  obtain rfl:ov=Value.ref a:=rx
  exact setattr_ok I2 ea c n l ry fun s3 I3=>⟨σ,_,I3,q2⟩
theorem methcall_of {pl:Sem Bool} {m:Str} {apos:Pos} {args:List Expr} {pins:List (Addr × Obj)} {s:Shared} {σ:St} {H:Hp} {Q:Value→Shared→Prop} {te:TE} (he:PE X e te) (I:Inv X pins σ H s)
    (h:te σ H fun x H1=>∃ a C dx fs g,x= .ref a∧H1 a=some (.ins C dx fs)∧Cls X.K C∧Meth X.K C m g∧fs.lookup m=none∧
      ∀ s1,Inv X pins σ H1 s1→wpAny (model X.prog X.w) X.A (callWith pos (.ref g) [.ref a] (backTo pos (starEach args X.env)) (backToKw pos (keywordEach [] X.env))) Q X.xe s1)
    (ht:eval (.Call (.Attribute e m apos) args [] pos) X.env=(do
      let ov ← eval e X.env
      standAt apos.atName
      let (f,first) ← holding [ov] (getMethod ov m pl)
      callWith pos f first (backTo pos (starEach args X.env)) (backToKw pos (keywordEach [] X.env)))):
    wpAny (model X.prog X.w) X.A (eval (.Call (.Attribute e m apos) args [] pos) X.env) Q X.xe s:=by
  refine PySem.W.methodCall_KW (pl:=pl) (thn (he pins s σ H _ I h) fun u s1 ⟨x,H1,I1,rx,a,C,dx,fs,g,ex,ea,c,k,l,q⟩=> ?_) ht
  subst ex
  obtain rfl:u=Value.ref a:=rx
  exact getmeth_ok I1 ea c k l (q s1 I1)
end
section
variable {X:Cx} {pins:List (Addr × Obj)} {σ:St} {H:Hp} {s:Shared} {A:Around} {E:Value→Shared→Prop} {Q:Value→Shared→Prop} {c:Value} {b:Bool}
inductive TyOf (K:PySem.W.Frag) (H:Hp):V→Value→Prop where
  | non:TyOf K H .non (.type "NoneType")
  | bl (x:Bool):TyOf K H (.bl x) (.type "bool")
  | int (i:Int):TyOf K H (.int i) (.type "int")
  | str (x:Str):TyOf K H (.str x) (.type "str")
  | flt (x:UInt64):TyOf K H (.flt x) (.type "float")
  | lst {a:Addr} {xs:List V} (e:H a=some (.lst xs)):TyOf K H (.ref a) (.type "list")
  | frz {a:Addr} {o:Obj} {xs:List V} (e:H a=some (.frz o (.lst xs))):TyOf K H (.ref a) (.type "list")
  | tup {a:Addr} {xs:List V} (e:H a=some (.tup xs)):TyOf K H (.ref a) (.type "tuple")
  | dK {a:Addr} {kvs:List (Key × V)} (e:H a=some (.dK kvs)):TyOf K H (.ref a) (.type "dict")
  | dT {a:Addr} {kvs:List (List Key × V)} (e:H a=some (.dT kvs)):TyOf K H (.ref a) (.type "dict")
  | ins {a C dx:Addr} {fs:List (Str × V)} (e:H a=some (.ins C dx fs)) (cl:Cls K C) (ha:PySem.W.findIn K (.ref C) "__class__"=some (some (.builtin "object.__class__")))
      (hn:PySem.W.specialIn K (.builtin "object.__class__") "__get__"=some (some (.builtin "getset_descriptor.__get__"))) (htk:PySem.W.takesIn K (.builtin "object.__class__")=some true)
      (hm:PySem.W.mroIn K C (.type "object")=some true):TyOf K H (.ref a) (.ref C)
theorem isinst_ok {x:V} {u t:Value} (I:Inv X pins σ H s) (rx:RelV x u) (ty:TyOf X.K H x t) (e:PySem.W.kitOne X.K t c=some b) (h:∀ tk,Q (.bool b) { s with toks:=tk }):
    wpAny (model X.prog X.w) A (call (.builtin "isinstance") [u,c]) Q E s:=by
  cases ty with
  | non=>cases (show u=Value.none from rx);exact PySem.W.kia_one PySem.W.kitx_none I.kIn True.intro e (fun z=>nomatch z) h
  | bl y=>cases (show u=Value.bool y from rx);exact PySem.W.kia_one PySem.W.kitx_bool I.kIn True.intro e (fun z=>nomatch z) h
  | int i=>obtain ⟨t,q⟩:=(show ∃ t,u=Value.int i t from rx);cases q;exact PySem.W.kia_one PySem.W.kitx_int I.kIn True.intro e (fun z=>nomatch z) h
  | str y=>obtain ⟨t,q⟩:=(show ∃ t,u=Value.str y t from rx);cases q;exact PySem.W.kia_one PySem.W.kitx_str I.kIn True.intro e (fun z=>nomatch z) h
  | flt y=>obtain ⟨t,q⟩:=(show ∃ t,u=Value.float y t from rx);cases q;exact PySem.W.kia_one PySem.W.kitx_float I.kIn True.intro e (fun z=>nomatch z) h
  | @lst a xs ea=>
    cases (show u=Value.ref a from rx)
    obtain ⟨_,_,n,_,h1⟩:=(show ObjOk X.prog X.w H s.heap a (.lst xs) from I.hok a _ ea)
    exact PySem.W.kia_one PySem.W.kitx_list I.kIn ⟨_,h1,rfl⟩ e (fun z=>nomatch z) h
  | @frz a ob xs ea=>
    cases (show u=Value.ref a from rx)
    obtain ⟨_,_,_,n,_,h1⟩:=(show ObjOk X.prog X.w H s.heap a (.frz ob (.lst xs)) from I.hok a _ ea)
    exact PySem.W.kia_one PySem.W.kitx_list I.kIn ⟨_,h1,rfl⟩ e (fun z=>nomatch z) h
  | @tup a xs ea=>
    cases (show u=Value.ref a from rx)
    obtain ⟨_,_,_,p⟩:=(show ObjOk X.prog X.w H s.heap a (.tup xs) from I.hok a _ ea)
    obtain ⟨o,h1,h2,_⟩:=p
    exact PySem.W.kia_one PySem.W.kitx_tuple I.kIn ⟨o,h1,h2⟩ e (fun z=>nomatch z) h
  | @dK a kvs ea=>
    cases (show u=Value.ref a from rx)
    obtain ⟨_,_,vs,_,p⟩:=(show ObjOk X.prog X.w H s.heap a (.dK kvs) from I.hok a _ ea)
    obtain ⟨o,es,ep,h1,h2,_⟩:=p
    exact PySem.W.kia_one PySem.W.kitx_dict I.kIn ⟨o,h1,h2.1⟩ e (fun z=>nomatch z) h
  | @dT a kvs ea=>
    cases (show u=Value.ref a from rx)
    obtain ⟨_,_,xs,_,o,es,ep,h1,h2,_⟩:=(show ObjOk X.prog X.w H s.heap a (.dT kvs) from I.hok a _ ea)
    exact PySem.W.kia_one PySem.W.kitx_dict I.kIn ⟨o,h1,h2.1⟩ e (fun z=>nomatch z) h
  | @ins a C dx fs ea cl ha hn htk hm=>
    cases (show u=Value.ref a from rx)
    obtain ⟨mA,O,_⟩:=ins_get I.hok ea
    obtain ⟨od,J,_⟩:=O.look
    exact PySem.W.kia_one (PySem.W.kitx_own (cl.get _) cl.hd ha hn htk hm) I.kIn J e (fun z=>nomatch z) h
end
end L2
namespace L2
open PySem PySem.Spec PyProof.Rows
structure Room (k:Nat) (A:Around):Prop where
  hd:A.handled=none
  dp:A.depth+3*k+5<recursionLimit
  un:A.units+16*k+200<cLine
theorem Room.mono {j k:Nat} {A:Around} (r:Room k A) (h:j≤k):Room j A:=⟨r.hd,by have:=r.dp;omega,by have:=r.un;omega⟩
theorem Room.deeper {k:Nat} {A:Around} (r:Room (k+1) A) (env:Env):Room k (A.deeper env):=
  ⟨r.hd,by have:=r.dp;show A.depth+1+3*k+5<_;omega,by have:=r.un;show A.units+3+16*k+200<_;omega⟩
theorem make_depth {A:Around} {C:Addr} {us:List Value} {kw:List (Str × Value)}:(A.under (.builtin "type.__call__" ⟨.ref C::us,kw⟩)).depth=A.depth+1:=by
  first | rfl | simp [Around.under,Code.weight,Code.isCreation,Code.isGuard,Code.isCaller,Code.frames,Code.isFrame,guardIds]
theorem make_units {A:Around} {C:Addr} {us:List Value} {kw:List (Str × Value)}:(A.under (.builtin "type.__call__" ⟨.ref C::us,kw⟩)).units=A.units+1:=by
  first | rfl | simp [Around.under,Code.cUnits,Code.frames,Code.isFrame]
theorem Room.make {k:Nat} {A:Around} (r:Room (k+1) A) (C:Addr) (us:List Value) (kw:List (Str × Value)):Room k (A.under (.builtin "type.__call__" ⟨.ref C::us,kw⟩)):=
  ⟨r.hd,by have:=r.dp;rw [make_depth];omega,by have:=r.un;rw [make_units];omega⟩
theorem Room.depth {k:Nat} {A:Around} (r:Room k A):A.depth<recursionLimit:=by have:=r.dp;omega
theorem Room.units {k:Nat} {A:Around} (r:Room k A):A.units+64<cLine:=by have:=r.un;omega
theorem Room.units0 {k:Nat} {A:Around} (r:Room k A):A.units<cLine:=by have:=r.un;omega
noncomputable def tNil:TA:=fun _ H Q=>Q [] H
noncomputable def tCons (ta:TE) (tr:TA):TA:=fun σ H Q=>ta σ H fun x H1=>tr σ H1 fun xs H2=>Q (x::xs) H2
section
variable {X:Cx} {e:Expr} {es:List Expr} {te:TE} {t:TA} {pos:Pos}
theorem pa_nil:PA X [] tNil:=fun _ _ _ _ H Q I h=>Calls.spliced_nil ⟨[],H,I, .nil,h⟩
theorem pa_cons (ha:PE X e te) (hr:PA X es t) (hs:starEach (e::es) X.env=(false,eval e X.env)::starEach es X.env:=by rfl):PA X (e::es) (tCons te t):=by
  intro pos pins s σ H Q I h
  rw [hs]
  show wpAny _ _ (spliced ((false,eval e X.env)::backTo pos (starEach es X.env))) _ _ s
  refine Calls.spliced_cons (thn (ha pins s σ H _ I h) fun u s1 ⟨x,H1,I1,r1,q1⟩=> ?_)
  exact thn (hr pos pins s1 σ H1 _ I1 q1) fun us s2 ⟨xs,H2,I2,r2,q2⟩=>⟨x::xs,H2,I2, .cons r1 r2,q2⟩
noncomputable def tTup (t:TA):TE:=fun σ H Q=>t σ H fun xs H1=>xs.length≤sizeLine∧∀ p,H1 p=none→Q (.ref p) (upd H1 p (.tup xs))
noncomputable def tLst (t:TA):TE:=fun σ H Q=>t σ H fun xs H1=>xs.length≤sizeLine∧∀ p,H1 p=none→Q (.ref p) (upd H1 p (.lst xs))
theorem pe_tup {x1} (h:PA X es t):PE X (.Tuple es x1 pos) (tTup t):=by
  intro pins s σ H Q I hq
  refine wpAny_Tuple_spliced (thn (h pos pins s σ H _ I hq) fun us s1 ⟨xs,H1,I1,r,z,q⟩=>⟨by rw [← r.length];exact z,?_⟩)
  have hf:H1 s1.heap.objs.size=none:=I1.hok.fresh (Nat.le_refl _)
  refine ⟨.ref s1.heap.objs.size,upd H1 s1.heap.objs.size (.tup xs),I1.laid (t':=s1.toks) (fun b u e=>Heap.get?_push_of_some _ e) (Nat.le_refl _) ?_,rfl,q _ hf⟩
  exact ⟨z,us,r,⟨_,Heap.get?_push_size _ rfl,rfl,_,rfl⟩⟩
theorem pe_lst (h:PA X es t):PE X (.List es pos) (tLst t):=by
  intro pins s σ H Q I hq
  refine wpAny_List_spliced (thn (h pos pins s σ H _ I hq) fun us s1 ⟨xs,H1,I1,r,z,q⟩=>⟨by rw [← r.length];exact z,?_⟩)
  have hf:H1 s1.heap.objs.size=none:=I1.hok.fresh (Nat.le_refl _)
  refine ⟨.ref s1.heap.objs.size,upd H1 s1.heap.objs.size (.lst xs),I1.laid (t':=s1.toks) (fun b u e=>Heap.get?_push_of_some _ e) (Nat.le_refl _) ?_,rfl,q _ hf⟩
  exact ⟨z,us,0,r,Heap.get?_push_size _ rfl⟩
end
noncomputable abbrev Sp:=List V→Hp→VK→XK→Prop
noncomputable abbrev CXT:=List Env→Hp→Shared→XK→Value→Shared→Prop
structure Env0 (P:Program) (w:World) (K:PySem.W.Frag) (mg:Str→Option Value) (base:Heap) (A:Around) (outer:List Env) (s:Shared) (H:Hp):Prop where
  frames:A.frames=some outer
  mod:Mod K mg base
  bs:∀ b o,base.get? b=some o→s.heap.get? b=some o∧H b=none
  bsz:base.objs.size≤s.heap.objs.size
  funs:s.heap.FunFrames base outer
  frf:∀ b∈frs outer,H b=none
  hok:HOk P w H s.heap
  bare:AllBare s.gens
noncomputable def CE (outer:List Env) (P:Program) (w:World) (H:Hp) (s:Shared) (Q:VK) (u:Value) (s':Shared):Prop:=
  ∃ v H',s'.os=s.os∧AllBare s'.gens∧Un (frs outer) [] H H' s.heap s'.heap∧HOk P w H' s'.heap∧RelV v u∧Q v H'
noncomputable def CR (CX:CXT) (outer:List Env) (P:Program) (w:World) (H:Hp) (s:Shared) (Q:VK) (E:XK) (r:Result) (s':Shared):Prop:=
  match r with
  | .ok (.ret u)=>CE outer P w H s Q u s'
  | .ok _=>False
  | .error e=>CX outer H s E e s'
structure FnOk (P:Program) (w:World) (K:PySem.W.Frag) (mg:Str→Option Value) (base:Heap) (CX:CXT) (k:Nat) (f:Addr) (fd:FuncData) (ps:List Str) (sp:Sp):Prop where
  len:∀ vs H Q E,sp vs H Q E→vs.length=ps.length
  run:∀ (A:Around) (outer:List Env) (s:Shared) (H:Hp) (args:Args) (us:List Value) (vs:List V) (Q:VK) (E:XK),Room k A→Env0 P w K mg base A outer s H→BindsTo s fd args (ps.zip us)→Vals vs us→sp vs H Q E→
    codeAny (model P w) A (.call (.ref f) args) (CR CX outer P w H s Q E) s
theorem Env0.make {P:Program} {w:World} {K:PySem.W.Frag} {mg:Str→Option Value} {base:Heap} {A:Around} {outer:List Env} {s:Shared} {H:Hp} (e:Env0 P w K mg base A outer s H) (C:Addr) (us:List Value) (kw:List (Str × Value)):
    Env0 P w K mg base (A.under (.builtin "type.__call__" ⟨.ref C::us,kw⟩)) outer s H:=⟨by first | exact e.frames | (simpa [Around.under,Code.envs,Code.isFrame,pushEnvs] using e.frames),e.mod,e.bs,e.bsz,e.funs,e.frf,e.hok,e.bare⟩
section
variable {X:Cx} {pins:List (Addr × Obj)} {σ:St} {H:Hp} {s s':Shared}
theorem Inv.env0 (I:Inv X pins σ H s):Env0 X.prog X.w X.K X.mg X.base X.A X.stack s H:=
  ⟨I.ok.frames,I.ok.mod,I.bs,Nat.le_trans I.ok.bsz I.sz,I.stack,I.stkFree,I.hok,I.bare⟩
theorem Inv.after {Q:VK} {u:Value} (I:Inv X pins σ H s) (h:CE X.stack X.prog X.w H s Q u s'):EP X pins σ Q u s':=by
  obtain ⟨v,H',os,bare,un,hok,r,q⟩:=h
  obtain ⟨hh,g,d,t,os'⟩:=s'
  obtain rfl:os'=s.os:=os
  exact ⟨v,H',I.call (h':=hh) (g':=g) (d':=d) (t':=t) (ch:=[]) un hok bare (fun b z=>absurd z (by simp)),r,q⟩
end
noncomputable def tCall (sp:Sp) (dvs:List V) (E:XK) (t:TA):TE:=fun σ H Q=>t σ H fun vs H1=>sp (vs++dvs) H1 Q E
noncomputable def tMeth (C:Addr) (m:Str) (sp:Sp) (dvs:List V) (E:XK) (ta:TE) (t:TA):TE:=fun σ H Q=>ta σ H fun x H1=>∃ a dx fs,x= .ref a∧H1 a=some (.ins C dx fs)∧fs.lookup m=none∧
  t σ H1 fun vs H2=>sp (x::(vs++dvs)) H2 Q E
noncomputable def tMake (C:Addr) (sp:Sp) (dvs:List V) (E:XK) (t:TA):TE:=fun σ H Q=>t σ H fun vs H1=>∀ x dx,H1 x=none→H1 dx=none→dx≠x→
  sp (.ref x::(vs++dvs)) (upd (upd H1 dx (.own x)) x (.ins C dx [])) (fun v H2=>v= .non∧Q (.ref x) H2) E
noncomputable def Binds (K:PySem.W.Frag) (fd:FuncData) (ps:List Str) (ds:List Value):Prop:=
  ∀ (s:Shared) (us:List Value),K.In s.heap→(us++ds).length=ps.length→BindsTo s fd ⟨us,[]⟩ (ps.zip (us++ds))
theorem Binds.all {K:PySem.W.Frag} {fd:FuncData} {ps:List Str} (h:∀ us:List Value,us.length=ps.length→bindArgs fd ⟨us,[]⟩=pure (ps.zip us)):Binds K fd ps []:=fun s us _ hl=>by
  rw [List.append_nil] at hl ⊢
  exact .of_eq (h us hl)
noncomputable def Passes (CX:CXT) (X:Cx) (E:XK):Prop:=∀ (pins:List (Addr × Obj)) (σ:St) (H:Hp) (s:Shared) (e:Value) (s':Shared),Inv X pins σ H s→CX X.stack H s E e s'→X.xe e s'
section
variable {X:Cx} {CX:CXT} {k:Nat} {f C:Addr} {fd:FuncData} {ps:List Str} {sp:Sp} {dvs:List V} {ds:List Value} {E:XK} {x m:Str} {p pos apos:Pos} {e o:Expr} {es:List Expr} {ta:TE} {t:TA}
theorem run_fn {pins:List (Addr × Obj)} {σ:St} {H:Hp} {s:Shared} {Q:VK} {us:List Value} {vs:List V} (F:FnOk X.prog X.w X.K X.mg X.base CX k f fd ps sp) (hr:Room k X.A) (hb:Binds X.K fd ps ds) (hd:Vals dvs ds) (hx:Passes CX X E)
    (I:Inv X pins σ H s) (r:Vals vs us) (h:sp (vs++dvs) H Q E):wpAny (model X.prog X.w) X.A (call (.ref f) us) (EP X pins σ Q) X.xe s:=by
  have r2:Vals (vs++dvs) (us++ds):=r.append hd
  have hl:(us++ds).length=ps.length:=by rw [← r2.length];exact F.len _ _ _ _ h
  refine wpAny_call (codeAny_mono (F.run X.A X.stack s H ⟨us,[]⟩ (us++ds) (vs++dvs) Q E hr I.env0 (hb s us I.kIn hl) r2 h) fun r s' hq=> ?_)
  cases r with
  | error e=>exact hx pins σ H s e s' I hq
  | ok fl=>
    cases fl with
    | ret u=>exact I.after hq
    | next=>exact False.elim hq
    | brk=>exact False.elim hq
    | cont=>exact False.elim hq
theorem pe_call (F:FnOk X.prog X.w X.K X.mg X.base CX k f fd ps sp) (hr:Room k X.A) (hg:Gl X x) (hm:X.mg x=some (.ref f)) (hk:PySem.W.keepIn X.K (.ref f)=true) (hb:Binds X.K fd ps ds) (hd:Vals dvs ds) (hx:Passes CX X E)
    (ha:PA X (e::es) t) (hdb:(x == ("__debug__":Str))=false:=by decide) (he:starEach (e::es) X.env=(false,eval e X.env)::starEach es X.env:=by rfl) (hpl:(backTo pos (starEach es X.env)).any (·.1)=false:=by rfl):
    PE X (.Call (.Name x p) (e::es) [] pos) (tCall sp dvs E t):=by
  intro pins s σ H Q I h
  refine wpAny_Call_Name_kw (ld_glob I hg hm ?_ hdb)
  refine PySem.W.callWith_K (h₀:=X.base) I.ok.mod.kin hk (thn (ha pos pins s σ H _ I h) fun us s1 ⟨vs,H1,I1,r,q⟩=>⟨I1.kIn,?_⟩) he hpl
  exact run_fn F hr hb hd hx I1 r q
theorem pe_meth {pl:Sem Bool} (he:PE X o ta) (c:Cls X.K C) (hm:Meth X.K C m f) (F:FnOk X.prog X.w X.K X.mg X.base CX k f fd ps sp) (hr:Room k X.A) (hb:Binds X.K fd ps ds) (hd:Vals dvs ds) (hx:Passes CX X E) (ha:PA X (e::es) t)
    (hst:starEach (e::es) X.env=(false,eval e X.env)::starEach es X.env:=by rfl) (hpl:(backTo pos (starEach es X.env)).any (·.1)=false:=by rfl)
    (ht:eval (.Call (.Attribute o m apos) (e::es) [] pos) X.env=(do
      let ov ← eval o X.env
      standAt apos.atName
      let (f,first) ← holding [ov] (getMethod ov m pl)
      callWith pos f first (backTo pos (starEach (e::es) X.env)) (backToKw pos (keywordEach [] X.env))):=by rfl):
    PE X (.Call (.Attribute o m apos) (e::es) [] pos) (tMeth C m sp dvs E ta t):=by
  intro pins s σ H Q I h
  refine PySem.W.methodCall_KW (pl:=pl) (thn (he pins s σ H _ I h) fun u s1 ⟨x,H1,I1,rx,a,dx,fs,ex,ea,l,q⟩=> ?_) ht
  subst ex
  obtain rfl:u=Value.ref a:=rx
  refine getmeth_ok I1 ea c hm l ?_
  refine PySem.W.callWith_K (first:=[.ref a]) (h₀:=X.base) I.ok.mod.kin hm.kp (thn (ha pos pins s1 σ H1 _ I1 q) fun us s2 ⟨vs,H2,I2,r,q2⟩=>⟨I2.kIn,?_⟩) hst hpl
  exact run_fn (us:= .ref a::us) (vs:= .ref a::vs) F hr hb hd hx I2 (.cons rfl r) q2
theorem pe_meth0 {pl:Sem Bool} (he:PE X o ta) (c:Cls X.K C) (hm:Meth X.K C m f) (F:FnOk X.prog X.w X.K X.mg X.base CX k f fd ps sp) (hr:Room k X.A) (hb:Binds X.K fd ps ds) (hd:Vals dvs ds) (hx:Passes CX X E)
    (ht:eval (.Call (.Attribute o m apos) [] [] pos) X.env=(do
      let ov ← eval o X.env
      standAt apos.atName
      let (f,first) ← holding [ov] (getMethod ov m pl)
      callWith pos f first (backTo pos (starEach [] X.env)) (backToKw pos (keywordEach [] X.env))):=by rfl):
    PE X (.Call (.Attribute o m apos) [] [] pos) (tMeth C m sp dvs E ta tNil):=by
  intro pins s σ H Q I h
  refine PySem.W.methodCall_KW (pl:=pl) (thn (he pins s σ H _ I h) fun u s1 ⟨x,H1,I1,rx,a,dx,fs,ex,ea,l,q⟩=> ?_) ht
  subst ex
  obtain rfl:u=Value.ref a:=rx
  refine getmeth_ok I1 ea c hm l ?_
  exact PySem.W.callWith_K0 (first:=[.ref a]) I1.kIn hm.kp (run_fn (us:=[.ref a]) (vs:=[.ref a]) F hr hb hd hx I1 (.cons rfl .nil) q)
structure Mk (K:PySem.W.Frag) (C f:Addr):Prop where
  makes:PySem.W.makesIn K C=true
  init:PySem.W.findIn K (.ref C) "__init__"=some (some (.ref f))
  fn:PySem.W.isFn K (.ref f)=true
  kp:PySem.W.keepIn K (.ref C)=true
theorem run_make {pins:List (Addr × Obj)} {σ:St} {H:Hp} {s:Shared} {Q:VK} {us:List Value} {vs:List V} (M:Mk X.K C f) (F:FnOk X.prog X.w X.K X.mg X.base CX k f fd ps sp) (hr:Room (k+1) X.A) (hb:Binds X.K fd ps ds) (hd:Vals dvs ds)
    (hx:Passes CX X E) (I:Inv X pins σ H s) (r:Vals vs us)
    (h:∀ x dx,H x=none→H dx=none→dx≠x→sp (.ref x::(vs++dvs)) (upd (upd H dx (.own x)) x (.ins C dx [])) (fun v H2=>v= .non∧Q (.ref x) H2) E):
    wpAny (model X.prog X.w) X.A (call (.ref C) us) (EP X pins σ Q) X.xe s:=by
  have hq:=h (s.heap.objs.size+1) s.heap.objs.size (I.hok.fresh (Nat.le_succ _)) (I.hok.fresh (Nat.le_refl _)) (Nat.ne_of_lt (Nat.lt_succ_self _))
  have I2:=Inv.made (C:=C) I
  have r2:Vals (V.ref (s.heap.objs.size+1)::(vs++dvs)) (Value.ref (s.heap.objs.size+1)::(us++ds)):= .cons rfl (r.append hd)
  have hl:(Value.ref (s.heap.objs.size+1)::us++ds).length=ps.length:=by
    have e:=r2.length
    rw [F.len _ _ _ _ hq] at e
    exact e.symm
  refine wpAny_call (make_map (f:=f) I.kIn M.makes M.init (beq_iff_eq.mp M.fn) (codeAny_mono (F.run _ X.stack _ _ ⟨Value.ref (s.heap.objs.size+1)::us,[]⟩ (Value.ref (s.heap.objs.size+1)::(us++ds)) _ _ E (hr.make C us [])
    (I2.env0.make C us []) (hb _ (Value.ref (s.heap.objs.size+1)::us) I2.kIn hl) r2 hq) fun r s' hq'=> ?_))
  cases r with
  | error e=>exact hx pins σ _ _ e s' I2 hq'
  | ok fl=>
    cases fl with
    | ret u=>
      obtain ⟨v,H',I3,rv,ev,q3⟩:=I2.after hq'
      subst ev
      exact ⟨rv,⟨V.ref (s.heap.objs.size+1),H',I3,rfl,q3⟩⟩
    | next=>exact False.elim hq'
    | brk=>exact False.elim hq'
    | cont=>exact False.elim hq'
theorem pe_make (M:Mk X.K C f) (F:FnOk X.prog X.w X.K X.mg X.base CX k f fd ps sp) (hr:Room (k+1) X.A) (hg:Gl X x) (hm:X.mg x=some (.ref C)) (hb:Binds X.K fd ps ds) (hd:Vals dvs ds) (hx:Passes CX X E)
    (ha:PA X (e::es) t) (hdb:(x == ("__debug__":Str))=false:=by decide) (he:starEach (e::es) X.env=(false,eval e X.env)::starEach es X.env:=by rfl) (hpl:(backTo pos (starEach es X.env)).any (·.1)=false:=by rfl):
    PE X (.Call (.Name x p) (e::es) [] pos) (tMake C sp dvs E t):=by
  intro pins s σ H Q I h
  refine wpAny_Call_Name_kw (ld_glob I hg hm ?_ hdb)
  refine PySem.W.callWith_K (h₀:=X.base) I.ok.mod.kin M.kp (thn (ha pos pins s σ H _ I h) fun us s1 ⟨vs,H1,I1,r,q⟩=>⟨I1.kIn,?_⟩) he hpl
  exact run_make M F hr hb hd hx I1 r q
end
section
variable {X:Cx} {CX:CXT} {k:Nat} {f C:Addr} {fd:FuncData} {ps ks:List Str} {sp:Sp} {E:XK} {x m:Str} {p pos apos kpos:Pos} {e o:Expr} {es:List Expr} {kws:List Keyword} {te ta:TE} {t tk:TA} {nm:Option Str}
structure KBinds (K:PySem.W.Frag) (fd:FuncData) (ps ks:List Str) (g:List Value→List Value→List Value) (gV:List V→List V→List V):Prop where
  to:∀ (s:Shared) (us ws:List Value),K.In s.heap→(g us ws).length=ps.length→BindsTo s fd ⟨us,ks.zip ws⟩ (ps.zip (g us ws))
  rel:∀ {vs:List V} {us:List Value} {zs:List V} {ws:List Value},Vals vs us→Vals zs ws→Vals (gV vs zs) (g us ws)
variable {g:List Value→List Value→List Value} {gV:List V→List V→List V}
end
structure FnScope (N P:List Str) (sc:Scope):Prop where
  kind:sc.kind= .function
  co:sc.isCoroutine=false
  gen:sc.isGenerator=false
  nd:N.Nodup
  pre:N.take P.length=P
  par:∀ x∈P,sc.names.lookup x=some .local∨sc.names.lookup x=some .cell
  nofree:∀ y∈sc.names,y.2≠ .free
theorem bindL_out {kindOf:Str→Option NameKind} {x:Str}:∀ {binds:List (Str × Value)} {m:Str→Option Value},(∀ v,(x,v)∉binds)→bindL kindOf binds m x=m x
  | [],_,_=>rfl
  | (n,v)::r,m,h=>by
    unfold bindL
    rw [bindL_out fun w hw=>h w (List.mem_cons_of_mem _ hw)]
    split
    · have:x≠n:=by rintro rfl;exact h v List.mem_cons_self
      simp [this]
    · rfl
theorem bindC_out {kindOf:Str→Option NameKind} {x:Str}:∀ {binds:List (Str × Value)} {m:Str→Option Value},(∀ v,(x,v)∉binds)→bindC kindOf binds m x=m x
  | [],_,_=>rfl
  | (n,v)::r,m,h=>by
    unfold bindC
    rw [bindC_out fun w hw=>h w (List.mem_cons_of_mem _ hw)]
    split
    · rfl
    · have:x≠n:=by rintro rfl;exact h v List.mem_cons_self
      simp [this]
theorem bindL_get {kindOf:Str→Option NameKind} {x:Str} {v:Value}:∀ {P:List Str} {vs:List Value} {i:Nat} {m:Str→Option Value},P.Nodup→P[i]?=some x→vs[i]?=some v→kindOf x=some .local→
    bindL kindOf (P.zip vs) m x=some v
  | [],_,_,_,_,h,_,_=>by simp at h
  | _::_,[],_,_,_,_,h,_=>by simp at h
  | p::P,w::vs,0,m,nd,h1,h2,hk=>by
    simp at h1 h2;subst h1;subst h2
    show bindL kindOf ((p,w)::P.zip vs) m p=_
    unfold bindL
    rw [bindL_out fun v hv=>(List.nodup_cons.mp nd).1 (List.of_mem_zip hv).1,if_pos hk]
    simp
  | p::P,w::vs,i+1,m,nd,h1,h2,hk=>by
    show bindL kindOf ((p,w)::P.zip vs) m x=_
    unfold bindL
    exact bindL_get (i:=i) (List.nodup_cons.mp nd).2 (by simpa using h1) (by simpa using h2) hk
theorem bindC_get {kindOf:Str→Option NameKind} {x:Str} {v:Value}:∀ {P:List Str} {vs:List Value} {i:Nat} {m:Str→Option Value},P.Nodup→P[i]?=some x→vs[i]?=some v→kindOf x≠some .local→
    bindC kindOf (P.zip vs) m x=some v
  | [],_,_,_,_,h,_,_=>by simp at h
  | _::_,[],_,_,_,_,h,_=>by simp at h
  | p::P,w::vs,0,m,nd,h1,h2,hk=>by
    simp at h1 h2;subst h1;subst h2
    show bindC kindOf ((p,w)::P.zip vs) m p=_
    unfold bindC
    rw [bindC_out fun v hv=>(List.nodup_cons.mp nd).1 (List.of_mem_zip hv).1,if_neg hk]
    simp
  | p::P,w::vs,i+1,m,nd,h1,h2,hk=>by
    show bindC kindOf ((p,w)::P.zip vs) m x=_
    unfold bindC
    exact bindC_get (i:=i) (List.nodup_cons.mp nd).2 (by simpa using h1) (by simpa using h2) hk
noncomputable def start (N:List Str) (vs:List V):St:=vs.map some++List.replicate (N.length - vs.length) none
noncomputable def cxOf (CX:CXT) (P:Program) (w:World) (K:PySem.W.Frag) (mg:Str→Option Value) (base:Heap) (N:List Str) (qual:Str) (scope:Scope) (f:Addr) (cd:Value) (A:Around) (outer:List Env) (s:Shared) (H:Hp) (E:XK):Cx where
  prog:=P
  w:=w
  K:=K
  mg:=mg
  base:=base
  A:=A.deeper (envOfC qual scope s.heap.objs.size f cd)
  N:=N
  s₀:=s
  H₀:=H
  env:=envOfC qual scope s.heap.objs.size f cd
  outer:=outer
  stack:=envOfC qual scope s.heap.objs.size f cd::outer
  ex:=[]
  calm:=true
  fn:=fun _=>true
  pn:=[]
  xe:=fun e s'=>wpAny (model P w) (A.deeper (envOfC qual scope s.heap.objs.size f cd)) (leaving (envOfC qual scope s.heap.objs.size f cd) e) (fun _ s''=>CX outer H s E e s'') (fun e' s''=>CX outer H s E e' s'') s'
theorem cell_has {sc:Scope} {n:Nat} {x:Str} (h:sc.names.lookup x=some .cell):∃ c,(cellsFrom n sc.names []).lookup x=some c:=by
  have q:=PySem.W.cellsFrom_some sc.names n [] (.inl h)
  exact Option.isSome_iff_exists.mp q
theorem inv_start {CX:CXT} {P:Program} {w:World} {K:PySem.W.Frag} {mg:Str→Option Value} {base:Heap} {N ps:List Str} {qual:Str} {scope:Scope} {f:Addr} {cd:Value} {A:Around} {outer:List Env} {s s1:Shared} {H:Hp} {E:XK} {us:List Value} {vs:List V}
    (S:FnScope N ps scope) (hd:A.handled=none) (e0:Env0 P w K mg base A outer s H) (hl:vs.length=ps.length) (r:Vals vs us)
    (x:InCallC s s.heap.objs.size (bindL (envOfC qual scope s.heap.objs.size f cd).kindOf (ps.zip us) fun _=>none) (cellsFrom (s.heap.objs.size+1) scope.names []) (bindC (envOfC qual scope s.heap.objs.size f cd).kindOf (ps.zip us) fun _=>none) s1):
    Inv (cxOf CX P w K mg base N qual scope f cd A outer s H E) [] (start N vs) H s1:=by
  have hpl:ps.length≤N.length:=by have:=congrArg List.length S.pre;rw [List.length_take] at this;omega
  obtain ⟨h1,tk,rfl,hk⟩:=x.done
  have noA:∀ b:Addr,b∉(cxOf CX P w K mg base N qual scope f cd A outer s H E).ex:=fun b z=>absurd (show b∈([]:List Addr) from z) (by simp)
  refine ⟨⟨e0.mod,S.kind,rfl,rfl,Nat.le_refl _,fun y z c h1 h2=> ?_,fun y hy=> ?_,fun y c _ h=> ?_,fun _=>hd,Around.frames_deeper e0.frames, .inr ⟨rfl,rfl⟩,fun b z=>absurd z (noA b),e0.bs,e0.bsz,fun b _ _=>noA b,fun b z=>absurd z (noA b),e0.funs,e0.frf⟩,
    rfl,e0.bare,Un.kept hk,⟨_,x.toInCall.ns,fun i y v h1 h2 h3=> ?_⟩,fun y c h=>⟨_,x.cell y c h⟩,e0.hok.fresh (Nat.le_refl _),fun y c h=> ?_,fun p hp=>absurd (show p∈([]:List (Addr × Obj)) from hp) (by simp),e0.hok.kept hk,?_⟩
  · exact name_of_addr x.apart (PySem.mem_of_lookup h1) (PySem.mem_of_lookup h2)
  · have hy:scope.names.lookup y=some .cell∨scope.names.lookup y=some .free:=hy
    rcases hy with hy | hy
    · exact cell_has hy
    · exact absurd rfl (S.nofree _ (PySem.mem_of_lookup hy))
  · exact Nat.le_of_lt (x.above y c (PySem.mem_of_lookup h))
  · have hi:i<vs.length:=by
      unfold start at h2
      by_cases hi:i<vs.length
      · exact hi
      · rw [List.getElem?_append_right (by simpa using hi)] at h2
        rw [List.getElem?_replicate] at h2
        split at h2 <;> cases h2
    have ha:vs[i]?=some v:=by
      unfold start at h2
      rw [List.getElem?_append_left (by simpa using hi),List.getElem?_map] at h2
      cases e:vs[i]? with
      | none=>rw [e] at h2;cases h2
      | some a=>rw [e] at h2;cases h2;rfl
    obtain ⟨u,hu,rv⟩:=r.get ha
    have hp:ps[i]?=some y:=by
      rw [← S.pre,List.getElem?_take_of_lt (by omega)];exact h1
    have ndP:ps.Nodup:=by rw [← S.pre];exact S.nd.sublist (List.take_sublist _ _)
    refine ⟨u,rv,?_⟩
    rcases S.par y (List.mem_of_getElem? hp) with k | k
    · exact .inl ⟨k,bindL_get ndP hp hu k⟩
    · obtain ⟨c,e⟩:=cell_has (n:=s.heap.objs.size+1) k
      refine .inr ⟨.inl k,c,e,?_⟩
      have q:=x.cell y c e
      rw [bindC_get ndP hp hu (by show scope.names.lookup y≠_;rw [k];decide)] at q
      exact q
  · exact e0.hok.fresh (Nat.le_of_lt (x.above y c (PySem.mem_of_lookup h)))
  · unfold start
    show _=N.length
    rw [List.length_append,List.length_map,List.length_replicate]
    omega
theorem fn_of {CX:CXT} {P:Program} {w:World} {K:PySem.W.Frag} {mg:Str→Option Value} {base:Heap} {k:Nat} {f:Addr} {name qual:Str} {params:Arguments} {body:List Stmt} {scope:Scope} {dV kV doc pm cdv ct oc:Value} {an od:Option Addr}
    {osl:Array (Option Value)} {N ps:List Str} {sp:Sp} (lk:K.lookup f=some ⟨oc,od, .func (PySem.W.fnOf name qual params body scope dV kV doc pm an cdv ct),osl⟩) (hcd:PySem.W.codeIn K cdv qual=true) (S:FnScope N ps scope)
    (len:∀ vs H Q E,sp vs H Q E→vs.length=ps.length)
    (hbody:∀ (A:Around) (outer:List Env) (s:Shared) (H:Hp) (vs:List V) (Q:VK) (E:XK),Room k (A.deeper (envOfC qual scope s.heap.objs.size f cdv))→sp vs H Q E→
      ∃ t,PSs (cxOf CX P w K mg base N qual scope f cdv A outer s H E) body t∧t { nx:=fun _ H'=>Q .non H',rt:=Q } (start N vs) H):
    FnOk P w K mg base CX (k+1) f (PySem.W.fnOf name qual params body scope dV kV doc pm an cdv ct) ps sp:=by
  refine ⟨len,fun A outer s H args us vs Q E hr e0 hb r hsp=> ?_⟩
  have hl:=len _ _ _ _ hsp
  have KX:K.In s.heap:=e0.mod.kin.keeps fun b o e=>(e0.bs b o e).1
  have lim:s.heap.NoLimit:=e0.mod.nolimit.keeps fun b o e=>(e0.bs b o e).1
  have hkind:∀ y∈ps.zip us,scope.names.lookup y.1=some .local∨(scope.names.lookup y.1=some .cell∧((cellsFrom (s.heap.objs.size+1) scope.names []).lookup y.1).isSome=true):=fun ⟨n,v⟩ hy=>by
    rcases S.par n (List.of_mem_zip hy).1 with q | q
    · exact .inl q
    · exact .inr ⟨q,PySem.W.cellsFrom_some _ _ _ (.inl q)⟩
  refine codeAny_call_function hr.depth (KX _ _ lk) rfl S.co S.gen rfl (PySem.W.codeRec_of KX hcd) (hb _ _ _ _ ?_)
  refine wpAny_newFunctionEnv_cells S.kind hkind fun env he s1 x=> ?_
  subst he
  refine ⟨lim.keeps x.toInCall.keep,codeAny_func ?_⟩
  obtain ⟨t,ht,hq⟩:=hbody A outer s H vs Q E (hr.deeper _) hsp
  have I:Inv (cxOf CX P w K mg base N qual scope f cdv A outer s H E) [] (start N vs) H s1:=inv_start S hr.hd e0 hl r x
  refine wpAny_mono (ht [] s1 (start N vs) H _ I hq) (fun fl s' hs=> ?_) fun e s' hs=>hs
  have fin:∀ {σ':St} {H':Hp} {v:V} {u:Value},Inv (cxOf CX P w K mg base N qual scope f cdv A outer s H E) [] σ' H' s'→RelV v u→Q v H'→CE outer P w H s Q u s':=
    fun {σ' H' v u} J rv q=>⟨v,H',J.os,J.bare,J.base,J.hok,rv,q⟩
  cases fl with
  | ret u=>
    obtain ⟨v,σ',H',J,rv,q⟩:=hs
    exact fin J rv q
  | next=>
    obtain ⟨σ',H',J,q⟩:=hs
    exact fin (v:=V.non) (u:=Value.none) J rfl q
  | brk=>
    obtain ⟨_,_,_,q⟩:=hs
    exact False.elim q
  | cont=>
    obtain ⟨_,_,_,q⟩:=hs
    exact False.elim q
end L2
namespace L2
open PySem PySem.Spec PyProof.Rows
section
variable {X:Cx} {x:Str} {p pos:Pos} {e:Expr} {es:List Expr} {t:TA} {id T:String} {r:List V→Hp→VK→Prop}
noncomputable def tCB (r:List V→Hp→VK→Prop) (t:TA):TE:=fun σ H Q=>t σ H fun vs H1=>r vs H1 Q
theorem pe_callB (hc:CallR X (.builtin id) r) (hg:Gl X x) (hm:X.mg x=none) (hv:bootBuiltins x=some (.builtin id)) (ha:PA X (e::es) t) (hn:x≠"__name__":=by decide) (hdb:(x == ("__debug__":Str))=false:=by decide)
    (he:starEach (e::es) X.env=(false,eval e X.env)::starEach es X.env:=by rfl) (hpl:(backTo pos (starEach es X.env)).any (·.1)=false:=by rfl):PE X (.Call (.Name x p) (e::es) [] pos) (tCB r t):=by
  intro pins s σ H Q I h
  refine wpAny_Call_Name_kw (ld_blt I hg hm hv ?_ hn hdb)
  exact PyProof.Rows.callWith_builtin1 (thn (ha pos pins s σ H _ I h) fun us s1 ⟨vs,H1,I1,r1,q1⟩=>hc pins s1 σ H1 vs us Q I1 r1 q1) he hpl
theorem pe_callTy (hc:CallR X (.type T) r) (hg:Gl X x) (hm:X.mg x=none) (hv:bootBuiltins x=some (.type T)) (ha:PA X (e::es) t) (hn:x≠"__name__":=by decide) (hdb:(x == ("__debug__":Str))=false:=by decide)
    (he:starEach (e::es) X.env=(false,eval e X.env)::starEach es X.env:=by rfl) (hpl:(backTo pos (starEach es X.env)).any (·.1)=false:=by rfl):PE X (.Call (.Name x p) (e::es) [] pos) (tCB r t):=by
  intro pins s σ H Q I h
  refine wpAny_Call_Name_kw (ld_blt I hg hm hv ?_ hn hdb)
  exact PyProof.Rows.callWith_type1 (thn (ha pos pins s σ H _ I h) fun us s1 ⟨vs,H1,I1,r1,q1⟩=>hc pins s1 σ H1 vs us Q I1 r1 q1) he hpl
end
end L2
namespace HT
open PySem PyProof.Rows
section
open PySem.SeqAt
open PySem.AutoSeq1 (wpAny_loadPart')
open PySem.MeetsSeq PySem.MeetsSeq2 PySem.MeetsSeq3
end
section
variable {prog:Program} {w:World} {A:Around} {E:Value→Shared→Prop} {s:Shared}
theorem cat_tup {t b:Addr} {vs ws:List Value} {Q:Value→Shared→Prop} (ht:IsTup s.heap t vs.toArray) (hb:IsTup s.heap b ws.toArray) (hv:vs≠[])
    (h1:ws=[]→Q (.ref t) s) (h2:ws≠[]→Q (.ref s.heap.objs.size) { s with heap:=s.heap.push { cls:= .type "tuple",data:= .seq (vs++ws).toArray } })
    (hsz:vs.length+ws.length≤sizeLine):wpAny (model prog w) A (binaryOp .Add (.ref t) (.ref b)) Q E s:=by
  obtain ⟨⟨cls,dd,data,sl⟩,ho,hc,n,hd⟩:=id ht
  obtain ⟨⟨cls2,dd2,data2,sl2⟩,ho2,hc2,n2,hd2⟩:=id hb
  simp only at hc hd hc2 hd2
  subst hc hd hc2 hd2
  have e:vs.toArray++ws.toArray=(vs++ws).toArray:=by simp
  by_cases hw:ws=[]
  · exact concat_meets ⟨_,ho,rfl⟩ ⟨_,ho2,rfl⟩ noFill_tuple_add seq_tuple_add PySem.F.slot_tuple_add PySem.F.entry_tuple_add (PySem.F.args_tuple_add_2 _ _)
      (tuple_addW1 t b vs.toArray ws.toArray n n2 dd dd2 sl sl2 (by simpa using hv) (by simp [hw])) ⟨ho,ho2,h1 hw⟩
  · refine concat_meets ⟨_,ho,rfl⟩ ⟨_,ho2,rfl⟩ noFill_tuple_add seq_tuple_add PySem.F.slot_tuple_add PySem.F.entry_tuple_add (PySem.F.args_tuple_add_2 _ _)
      (tuple_addW2 t b vs.toArray ws.toArray n n2 dd dd2 sl sl2 (by simpa using hv) (by simpa using hw) (by rw [List.size_toArray,List.size_toArray];exact hsz)) ⟨ho,ho2,?_⟩
    rw [e]
    exact h2 hw
noncomputable def sIx (n d:Nat):Option Int→Nat
  | none=>d
  | some v=>if v<0 then (v+(n:Int)).toNat else min v.toNat n
theorem sIx_le (n d:Nat) (hd:d≤n) (o:Option Int):sIx n d o≤n:=by
  cases o with
  | none=>exact hd
  | some v=>
    show (if v<0 then (v+(n:Int)).toNat else min v.toNat n)≤n
    by_cases hv:v<0
    · rw [if_pos hv];omega
    · rw [if_neg hv];exact Nat.min_le_right _ _
theorem clip_eq (v:Int) (n d:Nat):(if v<0 then max (v+(n:Int)) 0 else min v (n:Int))=((sIx n d (some v):Nat):Int):=by
  show (if v<0 then max (v+(n:Int)) 0 else min v (n:Int))=(((if v<0 then (v+(n:Int)).toNat else min v.toNat n):Nat):Int)
  by_cases hv:v<0
  · simp only [if_pos hv];omega
  · simp only [if_neg hv];omega
theorem adjust_gen (lo hi:Option Int) (n:Nat):Builtin.Slice.sliceAdjust lo hi 1 (n:Int)=(((sIx n 0 lo:Nat):Int),((sIx n n hi:Nat):Int)):=by
  have h1:¬ ((1:Int)<0):=by omega
  unfold Builtin.Slice.sliceAdjust
  simp only [h1,if_false]
  refine Prod.ext ?_ ?_
  · cases lo with
    | none=>rfl
    | some v=>exact clip_eq v n 0
  · cases hi with
    | none=>rfl
    | some v=>exact clip_eq v n n
theorem places_gen (i j:Nat):Builtin.Slice.slicePlaces (i:Int) (j:Int) 1=j - i:=by
  unfold Builtin.Slice.slicePlaces
  have h1:(1:Int)>0:=by omega
  simp only [h1,if_true,Int.ediv_one]
  split <;> omega
theorem slicePart_ {v:Value} {o:Option Int} {Q:Option Int→Shared→Prop} (p:IsPart v o) (h:Q o s):wpAny (model prog w) A (Builtin.Slice.slicePartIndex v) Q E s:=by
  cases p with
  | none=>exact slicePart_none h
  | int i t=>exact slicePart_int h
theorem sliceApplied_gen {sl:Addr} {vl vu:Value} {lo hi:Option Int} {n:Nat} {Q:Int × Int × Nat→Shared→Prop} (hs:s.heap.IsSliceOf sl vl vu .none) (pl:IsPart vl lo) (pu:IsPart vu hi)
    (h:Q (((sIx n 0 lo:Nat):Int),1,sIx n n hi - sIx n 0 lo) s):wpAny (model prog w) A (Builtin.Slice.sliceApplied (.ref sl) (pure (n:Int))) Q E s:=by
  obtain ⟨os,hos,hcs,hds⟩:=id hs
  unfold Builtin.Slice.sliceApplied Builtin.Slice.sliceFields
  refine wpAny_bind (wpAny_bind (wpAny_field hos hds (x:=vl) rfl (wpAny_bind (wpAny_field hos hds (x:=vu) rfl (wpAny_bind (wpAny_field hos hds (x:= .none) rfl (wpAny_pure ?_)))))))
  refine wpAny_bind (slicePart_none ?_)
  show wpAny _ _ (if ((1:Int) == 0)=true then _ else _) _ _ s
  rw [if_neg (by decide)]
  refine wpAny_bind (slicePart_ pl (wpAny_bind (slicePart_ pu (wpAny_bind (wpAny_pure ?_)))))
  show wpAny _ _ (match Builtin.Slice.sliceAdjust lo hi 1 (n:Int) with | (lo,hi)=>pure (lo,(1:Int),Builtin.Slice.slicePlaces lo hi 1)) _ _ s
  rw [adjust_gen lo hi n]
  show wpAny _ _ (pure (((sIx n 0 lo:Nat):Int),(1:Int),Builtin.Slice.slicePlaces ((sIx n 0 lo:Nat):Int) ((sIx n n hi:Nat):Int) 1)) _ _ s
  rw [places_gen]
  exact wpAny_pure h
theorem pick_gen (xs:Array Value) (i k:Nat):((List.range k).filterMap fun (m:Nat)=>xs[((i:Int)+(m:Int)*1).toNat]?).toArray=((xs.toList.drop i).take k).toArray:=by
  have e:(fun (m:Nat)=>xs[((i:Int)+(m:Int)*1).toNat]?)=fun m=>xs[i+m]?:=by
    funext m
    have:((i:Int)+(m:Int)*1).toNat=i+m:=by omega
    rw [this]
  rw [e]
  have:=pick_run xs i k
  rw [List.filterMap_map] at this
  have e2:((fun x=>xs[x]?)∘fun x=>i+x)=fun m=>xs[i+m]?:=rfl
  rw [e2] at this
  rw [this]
theorem getItem_tuple_cut {t sl:Addr} {items:Array Value} {vl vu:Value} {lo hi:Option Int} {Q:Value→Shared→Prop} (ht:IsTup s.heap t items) (hs:s.heap.IsSliceOf sl vl vu .none) (pl:IsPart vl lo) (pu:IsPart vu hi)
    (hw:¬ (sIx items.size 0 lo=0∧sIx items.size items.size hi=items.size))
    (h:Q (.ref s.heap.objs.size) { s with heap:=s.heap.push { cls:= .type "tuple",data:= .seq ((items.toList.drop (sIx items.size 0 lo)).take (sIx items.size items.size hi - sIx items.size 0 lo)).toArray } })
    (hsz:items.size≤sizeLine):wpAny (model prog w) A (getItem (.ref t) (.ref sl)) Q E s:=by
  have htake:sizeOk (.seq ((items.toList.drop (sIx items.size 0 lo)).take (sIx items.size items.size hi - sIx items.size 0 lo)).toArray):=by
    show ((items.toList.drop (sIx items.size 0 lo)).take (sIx items.size items.size hi - sIx items.size 0 lo)).toArray.size≤sizeLine
    rw [List.size_toArray,List.length_take,List.length_drop,Array.length_toList]
    omega
  have hj:sIx items.size items.size hi≤items.size:=sIx_le _ _ (Nat.le_refl _) hi
  obtain ⟨os,hos,hcs,hds⟩:=id hs
  have hTs:s.TypeIs (.ref sl) "slice":=⟨os,hos,hcs⟩
  unfold getItem
  try with_reducible refine wpAny_holding ?_
  first | refine wpAny_bind (wpAny_pure ?_) | skip
  refine wpAny_bind (wpAny_sequenceKey ht.typeIs (by decide) ?_)
  refine wpAny_bind (wpAny_callSpecial?_slot (name:=Str.ofString "__getitem__") ht.typeIs PyProof.Rows.slot_tuple_getitem
    (wpAny_call_entry PyProof.Rows.slot_tuple_getitem ht.typeIs entry_tuple_getitem ?_ (args_tuple_getitem _ _)))
  show wpAny _ _ (Builtin.Tuple.tupleItemsOf (.ref t) >>= _) _ _ s
  refine wpAny_bind (tupleItemsOf_ ht ?_)
  refine wpAny_bind (wpAny_typeOf hTs ?_)
  rw [if_pos (by decide)]
  refine wpAny_bind (sliceApplied_gen hs pl pu ?_)
  have hno:¬ ((((sIx items.size 0 lo:Nat):Int) == 0&&(1:Int) == 1&&(sIx items.size items.size hi - sIx items.size 0 lo) == items.size)=true):=by
    intro q
    rw [Bool.and_eq_true,Bool.and_eq_true] at q
    have q1:((sIx items.size 0 lo:Nat):Int)=0:=eq_of_beq q.1.1
    have q2:sIx items.size items.size hi - sIx items.size 0 lo=items.size:=eq_of_beq q.2
    exact hw ⟨by omega,by omega⟩
  show wpAny _ _ (if (((sIx items.size 0 lo:Nat):Int) == 0&&(1:Int) == 1&&(sIx items.size items.size hi - sIx items.size 0 lo) == items.size)=true then _ else _) _ _ s
  rw [if_neg hno,pick_gen]
  first
    | exact wpAny_bind (m:=Builtin.Tuple.tupleExact _) (wpAny_newObj_type (wpAny_pure ⟨_,rfl,wpAny_pure h⟩) htake)
    | exact wpAny_bind (m:=Builtin.Tuple.tupleExact _) (wpAny_newObj_type (wpAny_bind (wpAny_pure (wpAny_pure ⟨_,rfl,wpAny_pure h⟩))) htake)
    | exact wpAny_bind (wpAny_bind (m:=Builtin.Tuple.tupleExact _) (wpAny_newObj_type (wpAny_pure (wpAny_pure ⟨_,rfl,wpAny_pure h⟩)) htake))
    | exact wpAny_bind (wpAny_bind (m:=Builtin.Tuple.tupleExact _) (wpAny_newObj_type (wpAny_pure ⟨_,rfl,wpAny_pure h⟩) htake))
end
end HT
namespace L2
open PySem PySem.Spec PyProof.Rows
noncomputable abbrev TO:=St→Hp→(Option Int→Hp→Prop)→Prop
noncomputable def PO (X:Cx) (e:Option Expr) (t:TO):Prop:=
  ∀ (pins:List (Addr × Obj)) (s:Shared) (σ:St) (H:Hp) (Q:Option Int→Hp→Prop),Inv X pins σ H s→t σ H Q→
    wpAny (model X.prog X.w) X.A (evalPart e X.env) (fun u s'=>∃ o H',Inv X pins σ H' s'∧IsPart u o∧Q o H') X.xe s
noncomputable def tNoPart:TO:=fun _ H Q=>Q none H
noncomputable def tPart (t:TE):TO:=fun σ H Q=>t σ H fun x H1=>∃ i,x= .int i∧Q (some i) H1
theorem intsAre_of {ns:List Int}:∀ {us:List Value},Vals (ns.map V.int) us→IntsAre us ns:=by
  induction ns with
  | nil=>intro us r;rw [List.map_nil] at r;cases r;exact .nil
  | cons n ns ih=>
    intro us r
    rw [List.map_cons] at r
    cases r with
    | cons r1 r2=>
      obtain ⟨t,e⟩:=r1
      subst e
      exact .cons n t (ih r2)
section
variable {X:Cx} {e:Expr} {te:TE} {lo hi:Option Expr} {tl th:TO} {pos p2:Pos}
theorem po_none:PO X none tNoPart:=by
  intro pins s σ H Q I h
  rw [evalPart_none]
  exact wpAny_pure ⟨none,H,I, .none,h⟩
theorem po_some (h:PE X e te):PO X (some e) (tPart te):=by
  intro pins s σ H Q I hw
  rw [evalPart_some]
  refine thn (h pins s σ H _ I hw) fun u s1 ⟨x,H1,I1,r1,q1⟩=> ?_
  obtain ⟨i,rfl,q⟩:=q1
  obtain ⟨t,rfl⟩:=r1
  exact ⟨some i,H1,I1, .int i t,q⟩
noncomputable def SlR (X:Cx) (r:V→Option Int→Option Int→Hp→VK→Prop):Prop:=
  ∀ (pins:List (Addr × Obj)) (s:Shared) (σ:St) (H:Hp) (x:V) (v vl vu:Value) (lo hi:Option Int) (sl:Addr) (Q:VK),Inv X pins σ H s→RelV x v→s.heap.IsSliceOf sl vl vu .none→IsPart vl lo→IsPart vu hi→r x lo hi H Q→
    ∃ T id,typeLookup (.type T) "__getitem__"=pure (some (.builtin id))∧s.TypeIs v T∧wpAny (model X.prog X.w) X.A (getItem v (.ref sl)) (EP X pins σ Q) X.xe s
noncomputable def tSl (r:V→Option Int→Option Int→Hp→VK→Prop) (te:TE) (tl th:TO):TE:=fun σ H Q=>te σ H fun x H1=>tl σ H1 fun l H2=>th σ H2 fun u H3=>r x l u H3 Q
theorem pe_slice {r:V→Option Int→Option Int→Hp→VK→Prop} (hr:SlR X r) (he:PE X e te) (hl:PO X lo tl) (hu:PO X hi th):PE X (.Subscript e (.Slice lo hi none p2) pos) (tSl r te tl th):=by
  intro pins s σ H Q I h
  refine Subscript_ (thn (he pins s σ H _ I h) fun v s1 ⟨x,H1,I1,r1,q1⟩=> ?_)
  refine wpAny_Slice (thn (hl pins s1 σ H1 _ I1 q1) fun vl s2 ⟨l,H2,I2,pl,q2⟩=>thn (hu pins s2 σ H2 _ I2 q2) fun vu s3 ⟨u,H3,I3,pu,q3⟩=> ?_)
  rw [evalPart_none]
  refine wpAny_pure ?_
  have I4:Inv X pins σ H3 { s3 with heap:=s3.heap.push { cls:= .type "slice",data:= .fields #[vl,vu, .none] } }:=I3.kept (t':=s3.toks) fun b ob q=>Heap.get?_push_of_some _ q
  obtain ⟨T,id,hT,ht,hg⟩:=hr pins { s3 with heap:=s3.heap.push { cls:= .type "slice",data:= .fields #[vl,vu, .none] } } σ H3 x v vl vu l u s3.heap.objs.size Q I4 r1 (Heap.IsSliceOf.new ..) pl pu q3
  show wpAny (model X.prog X.w) X.A (subscriptTail e (.Slice lo hi none p2) v (.ref s3.heap.objs.size)) (EP X pins σ Q) X.xe { s3 with heap:=s3.heap.push { cls:= .type "slice",data:= .fields #[vl,vu, .none] } }
  exact tail_any (ops:=[.ref s3.heap.objs.size,v]) ht hT hg (by with_unfolding_all rfl)
noncomputable def cutV (xs:List V) (lo hi:Option Int):List V:=(xs.drop (HT.sIx xs.length 0 lo)).take (HT.sIx xs.length xs.length hi - HT.sIx xs.length 0 lo)
theorem cutV_length (xs:List V) (lo hi:Option Int):(cutV xs lo hi).length≤xs.length:=by
  unfold cutV
  rw [List.length_take,List.length_drop]
  omega
noncomputable def rSlT (K:PySem.W.Frag):V→Option Int→Option Int→Hp→VK→Prop:=fun x lo hi H Q=>∃ a xs,x= .ref a∧SqT K H a xs∧
  ¬ (HT.sIx xs.length 0 lo=0∧HT.sIx xs.length xs.length hi=xs.length)∧∀ p,H p=none→Q (.ref p) (upd H p (.tup (cutV xs lo hi)))
theorem sl_tup:SlR X (rSlT X.K):=by
  intro pins s σ H x v vl vu lo hi sl Q I rx hs pl pu h
  obtain ⟨a,xs,rfl,hx,hw,q⟩:=h
  cases rx
  obtain ⟨its,r,ht,hz⟩:=I.tuple hx
  have hlen:its.toArray.size=xs.length:=by rw [List.size_toArray];exact r.length.symm
  refine ⟨"tuple",_,PyProof.Rows.slot_tuple_getitem.lookup,ht.typeIs,?_⟩
  refine HT.getItem_tuple_cut ht hs pl pu (by rw [hlen];exact hw) ?_ (by rw [hlen];exact hz)
  rw [hlen]
  refine ⟨.ref s.heap.objs.size,_,I.laid (t':=s.toks) (o:= .tup (cutV xs lo hi)) (fun b ob q=>Heap.get?_push_of_some _ q) (Nat.le_refl _) ?_,rfl,q _ (I.hok.fresh (Nat.le_refl _))⟩
  exact ⟨Nat.le_trans (cutV_length xs lo hi) hz,_,(r.drop (HT.sIx xs.length 0 lo)).take (HT.sIx xs.length xs.length hi - HT.sIx xs.length 0 lo),IsTup.new _ _⟩
noncomputable def rCatT (K:PySem.W.Frag):R2:=fun x y H Q=>∃ a b xs ys,x= .ref a∧y= .ref b∧SqT K H a xs∧SqT K H b ys∧xs≠[]∧xs.length+ys.length≤sizeLine∧
  (ys=[]→Q (.ref a) H)∧(ys≠[]→∀ p,H p=none→Q (.ref p) (upd H p (.tup (xs++ys))))
theorem Vals.nil_iff {xs:List V} {us:List Value} (r:Vals xs us):us=[]↔xs=[]:=by
  cases r with
  | nil=>simp
  | cons _ _=>simp
theorem op_catT:OpR X (binaryOp .Add) (rCatT X.K):=by
  intro pins s σ H x y v u Q I rx ry h
  obtain ⟨a,b,xs,ys,rfl,rfl,ha,hb,hx,hz,q1,q2⟩:=h
  cases rx
  cases ry
  obtain ⟨its,r1,p1,_⟩:=I.tuple ha
  obtain ⟨its2,r2,p2,_⟩:=I.tuple hb
  refine HT.cat_tup p1 p2 (fun z=>hx (r1.nil_iff.mp z)) (fun z=>⟨.ref a,H,I,rfl,q1 (r2.nil_iff.mp z)⟩) (fun z=> ?_) (by rw [← r1.length, ← r2.length];exact hz)
  refine ⟨.ref s.heap.objs.size,_,I.laid (t':=s.toks) (o:= .tup (xs++ys)) (fun b ob q=>Heap.get?_push_of_some _ q) (Nat.le_refl _) ?_,rfl,q2 (fun w=>z (r2.nil_iff.mpr w)) _ (I.hok.fresh (Nat.le_refl _))⟩
  exact ⟨by rw [List.length_append];exact hz,_,r1.append r2,IsTup.new _ _⟩
end
end L2
namespace L2
open PySem PySem.Spec PyProof.Rows
noncomputable def ixN (n:Nat) (i:Int):Option Nat:=if 0≤i then (if i<n then some i.toNat else none) else if -(n:Int)≤i then some (i+n).toNat else none
noncomputable def atI {α:Type} (xs:List α) (i:Int):Option α:=(ixN xs.length i).bind fun j=>xs[j]?
theorem ixN_seq {n:Nat} {i:Int} {j:Nat} (h:ixN n i=some j):seqIndex? i n=some j∧j<n∧ -(n:Int)≤i∧i<n:=by
  unfold ixN at h
  by_cases h0:0≤i
  · rw [if_pos h0] at h
    by_cases h1:i<n
    · rw [if_pos h1] at h
      have e:i.toNat=j:=Option.some.inj h
      exact ⟨by rw [seqIndex_of h0 h1,e],by omega,by omega,h1⟩
    · rw [if_neg h1] at h;cases h
  · rw [if_neg h0] at h
    by_cases h1: -(n:Int)≤i
    · rw [if_pos h1] at h
      have e:(i+n).toNat=j:=Option.some.inj h
      exact ⟨by rw [seqIndex_neg (by omega) h1,e],by omega,h1,by omega⟩
    · rw [if_neg h1] at h;cases h
theorem atI_get {α:Type} {xs:List α} {i:Int} {v:α} (h:atI xs i=some v):∃ j,seqIndex? i xs.length=some j∧xs[j]?=some v∧j<xs.length∧ -(xs.length:Int)≤i∧i<xs.length:=by
  unfold atI at h
  cases e:ixN xs.length i with
  | none=>rw [e] at h;cases h
  | some j=>
    rw [e] at h
    obtain ⟨h1,h2,h3,h4⟩:=ixN_seq e
    exact ⟨j,h1,h,h2,h3,h4⟩
theorem atI_nat {α:Type} {xs:List α} {j:Nat} {v:α} (h:xs[j]?=some v):atI xs (j:Int)=some v:=by
  have hj:j<xs.length:=(List.getElem?_eq_some_iff.mp h).1
  have e:ixN xs.length (j:Int)=some j:=by
    unfold ixN
    rw [if_pos (by omega),if_pos (by omega)];simp
  unfold atI;rw [e];exact h
noncomputable def PlainIx (b:Expr):Prop:=∀ o i,subscripted b false o i=operate [o,i] (getItem o i)
noncomputable def IxR (X:Cx) (r:R2):Prop:=
  ∀ (value slice:Expr) (pins:List (Addr × Obj)) (s:Shared) (σ:St) (H:Hp) (x y:V) (v u:Value) (Q:VK),Inv X pins σ H s→RelV x v→RelV y u→r x y H Q→
    subscripted slice false v u=operate [v,u] (getItem v u)→wpAny (model X.prog X.w) X.A (subscriptTail value slice v u) (EP X pins σ Q) X.xe s
noncomputable def MtR (X:Cx) (id:String) (r:V→List V→Hp→VK→Prop):Prop:=
  ∀ (pins:List (Addr × Obj)) (s:Shared) (σ:St) (H:Hp) (x:V) (xs:List V) (v:Value) (us:List Value) (Q:VK),Inv X pins σ H s→RelV x v→Vals xs us→r x xs H Q→
    wpAny (model X.prog X.w) X.A (call (.builtin id) (v::us)) (EP X pins σ Q) X.xe s
section
variable {X:Cx} {a b:Expr} {ta tb:TE} {pos:Pos}
theorem pe_ix {r:R2} (hr:IxR X r) (ha:PE X a ta) (hb:PE X b tb) (hs:PlainIx b):PE X (.Subscript a b pos) (tOp r ta tb):=by
  intro pins s σ H Q I h
  exact Subscript_ (binT ha hb I h fun v u s2 x y H2 I2 rx ry q=>hr a b pins s2 σ H2 x y v u Q I2 rx ry q (hs _ _))
noncomputable def rIxL (K:PySem.W.Frag):R2:=fun x y H Q=>∃ p xs i v,x= .ref p∧y= .int i∧SqL K H p xs∧atI xs i=some v∧Q v H
noncomputable def rIxT (K:PySem.W.Frag):R2:=fun x y H Q=>∃ p xs i v,x= .ref p∧y= .int i∧SqT K H p xs∧atI xs i=some v∧Q v H
noncomputable def rIxS:R2:=fun x y H Q=>∃ z i c,x= .str z∧y= .int i∧z.length≤sizeLine∧atI z.cps.toList i=some c∧Q (.str ⟨#[c]⟩) H
theorem ix_list:IxR X (rIxL X.K):=by
  intro value slice pins s σ H x y v u Q I rx ry h hs
  obtain ⟨p,xs,i,z,rfl,rfl,hq,he,q⟩:=h
  cases rx
  obtain ⟨t,rfl⟩:=ry
  obtain ⟨its,r,pl,hz⟩:=I.list hq
  obtain ⟨j,h1,h2,h3,h4,h5⟩:=atI_get he
  obtain ⟨w,ew,rw'⟩:=r.get h2
  have hl:=r.length
  have hn:=line63
  have fin:EP X pins σ Q w s:=⟨z,H,I,rw',q⟩
  by_cases h0:0≤i
  · have hj:i.toNat=j:=by
      rw [seqIndex_of h0 h5] at h1
      exact Option.some.inj h1
    exact item_listR pl.isList h0 (by omega) (by rw [hj];simpa using ew) fin hs
  · have hj:(i+(its.toArray.size:Int)).toNat=j:=by
      rw [seqIndex_neg (by omega) h4] at h1
      rw [List.size_toArray, ← hl]
      exact Option.some.inj h1
    exact subscriptTail_builtinR (x:=w) pl.isList.typeIs slot_list_getitem.lookup
      (wpAny_getItem_list_neg (Q:=fun r s'=>r=w∧EP X pins σ Q r s') pl.isList (by omega) (by rw [List.size_toArray] <;> omega) (by omega) (by rw [hj];simpa using ew) ⟨rfl,fin⟩) hs
theorem ix_tup:IxR X (rIxT X.K):=by
  intro value slice pins s σ H x y v u Q I rx ry h hs
  obtain ⟨p,xs,i,z,rfl,rfl,hq,he,q⟩:=h
  cases rx
  obtain ⟨t,rfl⟩:=ry
  obtain ⟨its,r,pl,hz⟩:=I.tuple hq
  obtain ⟨j,h1,h2,h3,h4,h5⟩:=atI_get he
  obtain ⟨w,ew,rw'⟩:=r.get h2
  have hl:=r.length
  have hn:=line63
  have fin:EP X pins σ Q w s:=⟨z,H,I,rw',q⟩
  exact subscriptTail_builtinR (x:=w) pl.typeIs slot_tuple_getitem.lookup
    (getItem_tuple (j:=j) (Q:=fun r s'=>r=w∧EP X pins σ Q r s') pl (by omega) (by omega) (by rw [List.size_toArray, ← hl];exact h1) (by simpa using ew) ⟨rfl,fin⟩) hs
theorem ix_str:IxR X rIxS:=by
  intro value slice pins s σ H x y v u Q I rx ry h hs
  obtain ⟨z,i,c,rfl,rfl,hz,he,q⟩:=h
  obtain ⟨t,rfl⟩:=rx
  obtain ⟨t',rfl⟩:=ry
  obtain ⟨j,h1,h2,h3,h4,h5⟩:=atI_get he
  have hl:z.cps.toList.length=z.length:=by simp [Str.length]
  rw [hl] at h1 h4 h5
  have hn:=line63
  exact tail_any (typeIs_str s z t) slot_str_getitem.lookup (getItem_str (c:=c) (by
    have e1:decide (i< -(2 ^ 63:Int))=false:=decide_eq_false (by omega)
    have e2:decide (i≥2 ^ 63)=false:=decide_eq_false (by omega)
    rw [e1,e2,Bool.or_false]) (by rw [h1];simpa using h2) ⟨.str ⟨#[c]⟩,H,I.tok _,⟨_,rfl⟩,q⟩) hs
theorem mapSeq_set (its:List Value) (n j:Nat) (u:Value):Obj.mapSeq (·.setIfInBounds j u) { cls:= .type "list",data:= .seq its.toArray n }={ cls:= .type "list",data:= .seq (its.set j u).toArray n }:=by
  simp [Obj.mapSeq]
theorem Inv.lst {pins:List (Addr × Obj)} {σ:St} {H:Hp} {s:Shared} {p:Addr} {xs:List V} (I:Inv X pins σ H s) (h:H p=some (.lst xs)):
    ∃ (its:List Value) (n:Nat),Vals xs its∧s.heap.get? p=some { cls:= .type "list",data:= .seq its.toArray n }∧xs.length≤sizeLine:=by
  obtain ⟨z,its,n,r,e⟩:=I.hok p _ h
  exact ⟨its,n,r,e,z⟩
theorem Inv.lstUpd {pins:List (Addr × Obj)} {σ:St} {H:Hp} {s:Shared} {p:Addr} {xs ys:List V} {its its':List Value} {n n':Nat} {f:Obj→Obj} (I:Inv X pins σ H s) (h:H p=some (.lst xs))
    (ho:s.heap.get? p=some { cls:= .type "list",data:= .seq its.toArray n }) (hf:f { cls:= .type "list",data:= .seq its.toArray n }={ cls:= .type "list",data:= .seq its'.toArray n' }) (r:Vals ys its') (hz:ys.length≤sizeLine) (t:Nat):
    Inv X pins σ (upd H p (.lst ys)) { s with heap:=s.heap.update p f,toks:=t }:=by
  have e:(s.heap.update p f).get? p=some { cls:= .type "list",data:= .seq its'.toArray n' }:=by
    rw [Heap.get?_update_self f ho (by rw [hf] <;> rfl),hf]
  refine I.write (x:=p) (e:=p) (by rw [h];trivial) (.inl rfl) (fun b u hb q=>(Heap.get?_update_other _ _ (Ne.symm hb)).trans q) ⟨_,e⟩ ?_
  exact ⟨hz,its',n',r,e⟩
noncomputable def rSetL:V→V→V→Hp→(Hp→Prop)→Prop:=fun o i v H Q=>∃ p xs k j,o= .ref p∧i= .int k∧H p=some (.lst xs)∧ixN xs.length k=some j∧Q (upd H p (.lst (xs.set j v)))
theorem set_list:PSet X rSetL:=by
  intro pins s σ H o i v ov iv u Q I ro ri rv h
  obtain ⟨p,xs,k,j,rfl,rfl,hp,hj,q⟩:=h
  cases ro
  obtain ⟨t,rfl⟩:=ri
  obtain ⟨its,n,r,ho,hz⟩:=I.lst hp
  obtain ⟨h1,h2,h3,h4⟩:=ixN_seq hj
  have hl:=r.length
  have hn:=line63
  have I':Inv X pins σ (upd H p (.lst (xs.set j v))) { s with heap:=s.heap.update p (Obj.mapSeq (·.setIfInBounds j u)) }:=
    I.lstUpd hp ho (mapSeq_set its n j u) (r.set rv j) (by rw [List.length_set];exact hz) s.toks
  by_cases h0:0≤k
  · have hk:k.toNat=j:=by
      rw [seqIndex_of h0 h4] at h1
      exact Option.some.inj h1
    exact PySem.W.ki_setAt ho h0 (by omega) (by rw [List.size_toArray, ← hl];exact h4) (by rw [hk];exact ⟨_,I',q⟩)
  · have hk:(k+(its.toArray.size:Int)).toNat=j:=by
      rw [seqIndex_neg (by omega) h3] at h1
      rw [List.size_toArray, ← hl]
      exact Option.some.inj h1
    exact PySem.W.ki_setBack ho (by omega) (by rw [List.size_toArray, ← hl];exact h3) (by omega) (by rw [hk];exact ⟨_,I',q⟩)
theorem slice_bounds (lo hi:Option Int) (n:Nat):(sliceBounds lo hi none n).1=((HT.sIx n 0 lo:Nat):Int)∧(sliceBounds lo hi none n).2.1=((HT.sIx n n hi:Nat):Int)∧(sliceBounds lo hi none n).2.2=1:=by
  refine ⟨?_,?_,rfl⟩
  · cases lo with
    | none=>simp [sliceBounds,HT.sIx]
    | some i=>
      simp only [sliceBounds,HT.sIx,Option.getD_none,show (1:Int)>0 by decide,if_true]
      by_cases h:i<0
      · simp only [h,if_true] <;> omega
      · simp only [h,if_false] <;> omega
  · cases hi with
    | none=>simp [sliceBounds,HT.sIx]
    | some i=>
      simp only [sliceBounds,HT.sIx,Option.getD_none,show (1:Int)>0 by decide,if_true]
      by_cases h:i<0
      · simp only [h,if_true] <;> omega
      · simp only [h,if_false] <;> omega
theorem slicePick_cut (its:List Value) (lo hi:Option Int):slicePick its.toArray lo hi none=((its.drop (HT.sIx its.length 0 lo)).take (HT.sIx its.length its.length hi - HT.sIx its.length 0 lo)).toArray:=by
  obtain ⟨h1,h2,h3⟩:=slice_bounds lo hi its.toArray.size
  unfold slicePick
  rw [h1,h2,h3]
  simp only [sliceRange_one,pick_run,List.size_toArray] <;> rfl
noncomputable def rSlL (K:PySem.W.Frag):V→Option Int→Option Int→Hp→VK→Prop:=fun x lo hi H Q=>∃ a xs,x= .ref a∧SqL K H a xs∧∀ p,H p=none→Q (.ref p) (upd H p (.lst (cutV xs lo hi)))
theorem sl_list:SlR X (rSlL X.K):=by
  intro pins s σ H x v vl vu lo hi sl Q I rx hs pl pu h
  obtain ⟨a,xs,rfl,hx,q⟩:=h
  cases rx
  obtain ⟨its,r,ht,hz⟩:=I.list hx
  have hlen:=r.length
  refine ⟨"list",_,slot_list_getitem.lookup,ht.isList.typeIs,?_⟩
  refine wpAny_getItem_list_slice ht.isList hs pl pu .none (by simp) ?_ (by rw [List.size_toArray] <;> omega)
  rw [slicePick_cut, ← hlen]
  refine ⟨.ref s.heap.objs.size,_,I.laid (t':=s.toks) (o:= .lst (cutV xs lo hi)) (fun b ob q=>Heap.get?_push_of_some _ q) (Nat.le_refl _) ?_,rfl,q _ (I.hok.fresh (Nat.le_refl _))⟩
  exact ⟨Nat.le_trans (cutV_length xs lo hi) hz,_,0,(r.drop (HT.sIx xs.length 0 lo)).take (HT.sIx xs.length xs.length hi - HT.sIx xs.length 0 lo),Heap.get?_push_size _ rfl⟩
noncomputable def flatV:V→Bool
  | .non=>true
  | .bl _=>true
  | .int _=>true
  | .str _=>true
  | _=>false
noncomputable def eqV:V→V→Bool
  | .non, .non=>true
  | .bl a, .bl b=>a == b
  | .bl a, .int b=>(if a then 1 else 0) == b
  | .int a, .bl b=>a == (if b then 1 else 0)
  | .int a, .int b=>a == b
  | .str a, .str b=>a == b
  | _,_=>false
theorem eqAt_V {A:Around} {s:Shared} {y x:V} {u v:Value} (ry:RelV y u) (rx:RelV x v) (fy:flatV y=true) (fx:flatV x=true):SeqAt.EqAt A s u v (eqV y x):=by
  cases y with
  | non=>
    cases ry
    cases x with
    | non=>cases rx;exact SeqAt.EqAt.same _
    | bl b=>cases rx;exact SeqAt.EqAt.none_bool b
    | int b=>obtain ⟨t,rfl⟩:=rx;exact SeqAt.EqAt.none_int b t
    | str b=>obtain ⟨t,rfl⟩:=rx;exact SeqAt.EqAt.none_str b t
    | _=>exact absurd (show false=true from fx) Bool.false_ne_true
  | bl a=>
    cases ry
    cases x with
    | non=>cases rx;exact SeqAt.EqAt.bool_none a
    | bl b=>cases rx;exact SeqAt.EqAt.bool_bool a b
    | int b=>obtain ⟨t,rfl⟩:=rx;exact SeqAt.EqAt.bool_int a b t
    | str b=>obtain ⟨t,rfl⟩:=rx;exact SeqAt.EqAt.bool_str a b t
    | _=>exact absurd (show false=true from fx) Bool.false_ne_true
  | int a=>
    obtain ⟨t',rfl⟩:=ry
    cases x with
    | non=>cases rx;exact SeqAt.EqAt.int_none a t'
    | bl b=>cases rx;exact SeqAt.EqAt.int_bool a t' b
    | int b=>obtain ⟨t,rfl⟩:=rx;exact SeqAt.EqAt.int_int a t' b t
    | str b=>obtain ⟨t,rfl⟩:=rx;exact SeqAt.EqAt.int_str a t' b t
    | _=>exact absurd (show false=true from fx) Bool.false_ne_true
  | str a=>
    obtain ⟨t',rfl⟩:=ry
    cases x with
    | non=>cases rx;exact SeqAt.EqAt.str_none a t'
    | bl b=>cases rx;exact SeqAt.EqAt.str_bool a t' b
    | int b=>obtain ⟨t,rfl⟩:=rx;exact SeqAt.EqAt.str_int a t' b t
    | str b=>obtain ⟨t,rfl⟩:=rx;exact SeqAt.EqAt.str_str a t' b t
    | _=>exact absurd (show false=true from fx) Bool.false_ne_true
  | _=>exact absurd (show false=true from fy) Bool.false_ne_true
noncomputable def eqU (x:V) (u:Value):Bool:=match u with
  | .none=>eqV .non x
  | .bool b=>eqV (.bl b) x
  | .int i _=>eqV (.int i) x
  | .str z _=>eqV (.str z) x
  | _=>false
theorem eqU_of {x y:V} {u:Value} (r:RelV y u) (f:flatV y=true):eqU x u=eqV y x:=by
  cases y with
  | non=>cases r;rfl
  | bl b=>cases r;rfl
  | int i=>obtain ⟨t,rfl⟩:=r;rfl
  | str z=>obtain ⟨t,rfl⟩:=r;rfl
  | _=>exact absurd (show false=true from f) Bool.false_ne_true
theorem any_eqU {x:V}:∀ {xs:List V} {us:List Value},Vals xs us→xs.all flatV=true→us.any (eqU x)=xs.any fun y=>eqV y x
  | _,_, .nil,_=>rfl
  | y::xs,u::us, .cons r t,f=>by
    rw [List.all_cons,Bool.and_eq_true] at f
    rw [List.any_cons,List.any_cons,eqU_of r f.1,any_eqU t f.2]
theorem mem_eqAt {A:Around} {s:Shared} {x:V} {v:Value} (rx:RelV x v) (fx:flatV x=true):∀ {xs:List V} {us:List Value},Vals xs us→xs.all flatV=true→∀ u∈us,SeqAt.EqAt A s u v (eqU x u)
  | _,_, .nil,_=>fun u hu=>by cases hu
  | y::xs,u::us, .cons r t,f=>fun u' hu=>by
    rw [List.all_cons,Bool.and_eq_true] at f
    rcases List.mem_cons.mp hu with rfl | hu
    · rw [eqU_of r f.1];exact eqAt_V r rx f.1 fx
    · exact mem_eqAt rx fx t f.2 u' hu
noncomputable def inV (x:V) (xs:List V):Bool:=xs.any fun y=>eqV y x
noncomputable def rIn (K:PySem.W.Frag) (neg:Bool):R2:=fun x y H Q=>∃ p xs,y= .ref p∧(SqL K H p xs∨SqT K H p xs)∧flatV x=true∧xs.all flatV=true∧Q (.bl (if neg then !inV x xs else inV x xs)) H
theorem op_in_seq:OpR X (compareOp .In) (rIn X.K false):=by
  intro pins s σ H x y v u Q I rx ry h
  obtain ⟨p,xs,rfl,hq,fx,fs,q⟩:=h
  cases ry
  rcases hq with hq | hq
  · obtain ⟨its,r,pl,hz⟩:=I.list hq
    refine SeqAt.in_listAt (eqU x) pl.isList (fun w hw=>mem_eqAt rx fx r fs w (by simpa using hw)) ⟨.bl _,H,I,rfl,?_⟩
    rw [show its.toArray.any (eqU x)=its.any (eqU x) by simp,any_eqU r fs]
    exact q
  · obtain ⟨its,r,pl,hz⟩:=I.tuple hq
    refine SeqAt.in_tupleAt (eqU x) pl (fun w hw=>mem_eqAt rx fx r fs w (by simpa using hw)) ⟨.bl _,H,I,rfl,?_⟩
    rw [show its.toArray.any (eqU x)=its.any (eqU x) by simp,any_eqU r fs]
    exact q
theorem op_notIn_seq:OpR X (compareOp .NotIn) (rIn X.K true):=by
  intro pins s σ H x y v u Q I rx ry h
  obtain ⟨p,xs,rfl,hq,fx,fs,q⟩:=h
  cases ry
  rcases hq with hq | hq
  · obtain ⟨its,r,pl,hz⟩:=I.list hq
    refine SeqAt.notIn_listAt (eqU x) pl.isList (fun w hw=>mem_eqAt rx fx r fs w (by simpa using hw)) ⟨.bl _,H,I,rfl,?_⟩
    rw [show its.toArray.any (eqU x)=its.any (eqU x) by simp,any_eqU r fs]
    exact q
  · obtain ⟨its,r,pl,hz⟩:=I.tuple hq
    refine SeqAt.notIn_tupleAt (eqU x) pl (fun w hw=>mem_eqAt rx fx r fs w (by simpa using hw)) ⟨.bl _,H,I,rfl,?_⟩
    rw [show its.toArray.any (eqU x)=its.any (eqU x) by simp,any_eqU r fs]
    exact q
theorem call_list_of:CallR X (.type "list") (fun xs H Q=>∃ p ys,xs=[.ref p]∧(SqL X.K H p ys∨SqT X.K H p ys)∧∀ l,H l=none→Q (.ref l) (upd H l (.lst ys))):=by
  intro pins s σ H xs us Q I r h
  obtain ⟨p,ys,rfl,hq,q⟩:=h
  obtain ⟨u,rfl,rx⟩:=vals1 r
  cases rx
  have fin:∀ (its:List Value),Vals ys its→ys.length≤sizeLine→∀ (h':Heap) (c':Nat),(∀ b o',s.heap.get? b=some o'→h'.get? b=some o')→
      h'.get? s.heap.objs.size=some { cls:= .type "list",dict:=none,data:= .seq its.toArray c',slots:= #[] }→EP X pins σ Q (.ref s.heap.objs.size) { s with heap:=h' }:=fun its r' hz h' c' kp e=>
    ⟨.ref s.heap.objs.size,_,I.laid (t':=s.toks) kp (Nat.le_refl _) (show ObjOk X.prog X.w _ h' _ (.lst ys) from ⟨hz,its,c',r',e⟩),rfl,q _ (I.hok.fresh (Nat.le_refl _))⟩
  rcases hq with hq | hq
  · obtain ⟨its,r',pl,hz⟩:=I.list hq
    have hlen:=r'.length
    obtain ⟨o,ho,hc,n,hd⟩:=pl.isList
    exact call_list_seq p (.inl rfl) ho hc hd (fun h' c' kp e=>fin its r' hz h' c' kp e) (by simp only [List.size_toArray] <;> omega)
  · obtain ⟨its,r',pl,hz⟩:=I.tuple hq
    have hlen:=r'.length
    obtain ⟨o,ho,hc,n,hd⟩:=pl
    exact call_list_seq p (.inr rfl) ho hc hd (fun h' c' kp e=>fin its r' hz h' c' kp e) (by simp only [List.size_toArray] <;> omega)
theorem call_tuple_of:CallR X (.type "tuple") (fun xs H Q=>∃ p ys,xs=[.ref p]∧((SqL X.K H p ys∧∀ l,H l=none→Q (.ref l) (upd H l (.tup ys)))∨(SqT X.K H p ys∧Q (.ref p) H))):=by
  intro pins s σ H xs us Q I r h
  obtain ⟨p,ys,rfl,h⟩:=h
  obtain ⟨u,rfl,rx⟩:=vals1 r
  cases rx
  rcases h with ⟨hq,q⟩ | ⟨hq,q⟩
  · obtain ⟨its,r',pl,hz⟩:=I.list hq
    have hlen:=r'.length
    refine call_tuple_list pl.isList (fun h' kp=> ?_) (by simp only [List.size_toArray] <;> omega)
    have I1:Inv X pins σ H { s with heap:=h' }:=I.kept (t':=s.toks) kp
    have I2:Inv X pins σ (upd H h'.objs.size (.tup ys)) { s with heap:=h'.push { cls:= .type "tuple",data:= .seq its.toArray } }:=
      I1.laid (t':=s.toks) (fun b o e=>Heap.get?_push_of_some _ e) (Nat.le_refl _) (show ObjOk X.prog X.w _ _ _ (.tup ys) from ⟨hz,its,r',IsTup.new _ _⟩)
    exact ⟨.ref h'.objs.size,_,I2,rfl,q _ (I1.hok.fresh (Nat.le_refl _))⟩
  · obtain ⟨its,r',pl,hz⟩:=I.tuple hq
    exact call_tuple_same pl ⟨.ref p,H,I,rfl,q⟩
noncomputable def tyV (K:PySem.W.Frag) (T:String) (x:V) (H:Hp):Prop:=match x with
  | .str _=>T="str"
  | .int _=>T="int"
  | .ref p=>(T="list"∧∃ xs,SqL K H p xs)∨(T="tuple"∧∃ o,K.lookup p=some o∧o.cls= .type "tuple"∧o.dict=none)∨
      (T="dict"∧((∃ kvs,H p=some (.dK kvs))∨∃ kvs,H p=some (.dT kvs)))∨(T="set"∧∃ S n,H p=some (.set S n))
  | _=>False
theorem tyV_is {pins:List (Addr × Obj)} {σ:St} {H:Hp} {s:Shared} {T:String} {x:V} {v:Value} (I:Inv X pins σ H s) (r:RelV x v) (ty:tyV X.K T x H):
    s.TypeIs v T∧∀ a,v= .ref a→∃ ob,s.heap.get? a=some ob∧ob.dict=none:=by
  cases x with
  | str z=>
    obtain ⟨t,rfl⟩:=r
    cases (show T="str" from ty)
    exact ⟨typeIs_str s z t,fun _ e=>nomatch e⟩
  | int i=>
    obtain ⟨t,rfl⟩:=r
    cases (show T="int" from ty)
    exact ⟨typeIs_int s i t,fun _ e=>nomatch e⟩
  | ref p=>
    cases r
    rcases ty with ⟨rfl,xs,hq⟩ | ⟨rfl,o,hk,hc,hd⟩ | ⟨rfl,hk⟩ | ⟨rfl,S,n,hk⟩
    · obtain ⟨its,_,pl,_⟩:=I.list hq
      refine ⟨pl.isList.typeIs,fun a e=> ?_⟩
      cases e
      obtain ⟨o,n,e,c,hd,_⟩:=pl
      exact ⟨o,e,hd⟩
    · refine ⟨⟨o,I.kIn p o hk,hc⟩,fun a e=> ?_⟩
      cases e
      exact ⟨o,I.kIn _ o hk,hd⟩
    · have z:∃ o,s.heap.get? p=some o∧o.ExactDict:=by
        rcases hk with ⟨kvs,hk⟩ | ⟨kvs,hk⟩
        · obtain ⟨_,_,_,_,o,_,_,e,ex,_⟩:=I.hok p _ hk
          exact ⟨o,e,ex⟩
        · obtain ⟨_,_,_,_,o,_,_,e,ex,_⟩:=I.hok p _ hk
          exact ⟨o,e,ex⟩
      obtain ⟨o,e,ex⟩:=z
      refine ⟨⟨o,e,ex.1⟩,fun a e2=> ?_⟩
      cases e2
      exact ⟨o,e,ex.2.1⟩
    · obtain ⟨o,_,_,_,e,ex,_⟩:=I.hok p _ hk
      refine ⟨⟨o,e,ex.1⟩,fun a e2=> ?_⟩
      cases e2
      exact ⟨o,e,ex.2.1⟩
  | _=>exact False.elim ty
noncomputable def tBM0 (K:PySem.W.Frag) (T:String) (r:V→List V→Hp→VK→Prop) (to:TE):TE:=fun σ H Q=>to σ H fun x H1=>tyV K T x H1∧r x [] H1 Q
noncomputable def tBM (K:PySem.W.Frag) (T:String) (r:V→List V→Hp→VK→Prop) (to:TE) (t:TA):TE:=fun σ H Q=>to σ H fun x H1=>tyV K T x H1∧t σ H1 fun xs H2=>r x xs H2 Q
variable {o e:Expr} {es:List Expr} {to:TE} {t:TA} {name:Str} {apos cpos:Pos} {T id:String} {r:V→List V→Hp→VK→Prop}
theorem pe_bm0 (pa:PlainAttrs T) (slot:Slot T name id) (hty:typeOf (.builtin id)=pure (.type "method_descriptor")) (hm:MtR X id r) (ho:PE X o to)
    (hbase:attributeBase o name X.env (eval o X.env)=eval o X.env:=by rfl) (hline:(apos.endLine == cpos.line)=true:=by rfl):PE X (.Call (.Attribute o name apos) [] [] cpos) (tBM0 X.K T r to):=by
  intro pins s σ H Q I h
  refine wpAny_Call_method0_late hbase hline (thn (ho pins s σ H _ I h) fun v s1 ⟨x,H1,I1,r1,ty,q1⟩=> ?_)
  obtain ⟨h1,h2⟩:=tyV_is I1 r1 ty
  exact ⟨T,id,pa,slot,hty,h1,h2,Calls.callWith_builtin rfl (PySem.evalArgs_none (hm pins s1 σ H1 x [] v [] Q I1 r1 .nil q1))⟩
theorem pe_bm (pa:PlainAttrs T) (slot:Slot T name id) (hty:typeOf (.builtin id)=pure (.type "method_descriptor")) (hm:MtR X id r) (ho:PE X o to) (ha:PA X (e::es) t)
    (hbase:attributeBase o name X.env (eval o X.env)=eval o X.env:=by rfl)
    (hfew:((backTo cpos (starEach (e::es) X.env)).all (fun x=> !x.1)&&(backToKw cpos (keywordEach [] X.env)).all (fun x=>x.1.isSome)
      && decide ((e::es).length+([]:List Keyword).length+(if ([]:List Keyword).isEmpty then 0 else 1)<30))=true:=by rfl)
    (hline:(apos.endLine == cpos.line)=true:=by rfl) (hs:starEach (e::es) X.env=(false,eval e X.env)::starEach es X.env:=by rfl) (hplain:(backTo cpos (starEach es X.env)).any (·.1)=false:=by rfl):
    PE X (.Call (.Attribute o name apos) (e::es) [] cpos) (tBM X.K T r to t):=by
  intro pins s σ H Q I h
  refine wpAny_Call_method_late hbase hfew hline rfl (thn (ho pins s σ H _ I h) fun v s1 ⟨x,H1,I1,r1,ty,q1⟩=> ?_)
  obtain ⟨h1,h2⟩:=tyV_is I1 r1 ty
  refine ⟨T,id,pa,slot,hty,h1,h2,?_⟩
  have hA:=ha cpos pins s1 σ H1 _ I1 q1
  rw [hs] at hA ⊢
  refine Calls.callWith_builtin (by show (false||(backTo cpos (starEach es X.env)).any (·.1))=false;rw [hplain] <;> rfl) (Calls.evalArgs_plain ?_)
  exact thn hA fun us s2 ⟨vs,H2,I2,r2,q2⟩=>hm pins s2 σ H2 x vs v us Q I2 r1 r2 q2
end
end L2
namespace L2
open PySem PySem.Spec PyProof.Rows
noncomputable def MtM (X:Cx) (id:String) (r:V→List V→Hp→VK→Prop):Prop:=
  ∀ (pins:List (Addr × Obj)) (s:Shared) (σ:St) (H:Hp) (x:V) (xs:List V) (v:Value) (us:List Value) (Q:VK),Inv X pins σ H s→RelV x v→Vals xs us→r x xs H Q→
    wpAny (model X.prog X.w) X.A (call (.builtin id) (v::us)) (EP X pins σ Q) X.xe s
theorem Vals.one:∀ {x:V} {us:List Value},Vals [x] us→∃ u,us=[u]∧RelV x u
  | _,_, .cons r .nil=>⟨_,rfl,r⟩
theorem Vals.zero:∀ {us:List Value},Vals [] us→us=[]
  | _, .nil=>rfl
theorem Vals.rep {xs:List V} {us:List Value} (h:Vals xs us):∀ k:Nat,Vals (List.replicate k xs).flatten (List.replicate k us).flatten
  | 0=> .nil
  | k+1=>by
    rw [List.replicate_succ,List.replicate_succ,List.flatten_cons,List.flatten_cons]
    exact Vals.append h (Vals.rep h k)
theorem foldl_rep (its:List Value):∀ (k:Nat) (acc:List Value),
    List.foldl (fun x1 x2=>x1++x2) acc.toArray (List.replicate k its.toArray)=(acc++(List.replicate k its).flatten).toArray
  | 0,acc=>by simp
  | k+1,acc=>by
    have e:acc.toArray++its.toArray=(acc++its).toArray:=by simp
    have e2:(acc++its)++(List.replicate k its).flatten=acc++(List.replicate (k+1) its).flatten:=by
      rw [List.replicate_succ,List.flatten_cons,List.append_assoc]
    rw [← e2, ← foldl_rep its k (acc++its), ← e,List.replicate_succ,List.foldl_cons]
section
variable {X:Cx} {pins:List (Addr × Obj)} {σ:St} {H:Hp} {s:Shared} {l b:Addr} {xs ys zs:List V}
theorem Inv.lset {its its':List Value} {n:Nat} {f:Array Value→Array Value} {t':Nat} (I:Inv X pins σ H s) (hH:H l=some (.lst xs))
    (e:s.heap.get? l=some { cls:= .type "list",data:= .seq its.toArray n }) (hf:f its.toArray=its'.toArray) (hv:Vals ys its') (hz:ys.length≤sizeLine):
    Inv X pins σ (upd H l (.lst ys)) { s with heap:=s.heap.update l (Obj.mapSeq f),toks:=t' }:=by
  have q:=PySem.IsL.update e f
  rw [hf] at q
  refine I.write (x:=l) (e:=l) (by rw [hH];exact trivial) (.inl rfl) (fun b' u hb hu=>(Heap.get?_update_other s.heap (Obj.mapSeq f) (Ne.symm hb)).trans hu) ⟨_,q⟩ ?_
  exact ⟨hz,its',_,hv,q⟩
theorem Inv.lnew {its:List Value} {t':Nat} (I:Inv X pins σ H s) (hv:Vals ys its) (hz:ys.length≤sizeLine):
    Inv X pins σ (upd H s.heap.objs.size (.lst ys)) { s with heap:=s.heap.push { cls:= .type "list",data:= .seq its.toArray },toks:=t' }:=
  I.laid (fun _ _ q=>Heap.get?_push_of_some _ q) (Nat.le_refl _) ⟨hz,its,0,hv,Heap.get?_push_size _ rfl⟩
theorem Inv.fresh (I:Inv X pins σ H s):H s.heap.objs.size=none:=I.hok.fresh (Nat.le_refl _)
theorem Inv.lstM (I:Inv X pins σ H s) (hH:H l=some (.lst xs)):xs.length≤sizeLine∧∃ (its:List Value) (n:Nat),Vals xs its∧xs.length=its.length∧s.heap.get? l=some { cls:= .type "list",data:= .seq its.toArray n }:=by
  obtain ⟨z,its,n,r,e⟩:=I.hok l _ hH
  exact ⟨z,its,n,r,r.length,e⟩
theorem notLongL {n:Nat} (h:n≤sizeLine):Builtin.List.listTooLong n=false:=by
  unfold Builtin.List.listTooLong
  exact decide_eq_false (by omega)
end
section
variable {X:Cx}
noncomputable def rAppend:V→List V→Hp→VK→Prop:=fun x vs H Q=>∃ l xs y,x= .ref l∧vs=[y]∧H l=some (.lst xs)∧xs.length<sizeLine∧Q .non (upd H l (.lst (xs++[y])))
theorem mt_append:MtM X "list.append" rAppend:=by
  intro pins s σ H x vs v us Q I rx rv h
  obtain ⟨l,xs,y,rfl,rfl,hH,hz,q⟩:=h
  cases rx
  obtain ⟨u,rfl,ru⟩:=rv.one
  obtain ⟨z,its,n,r,hl,e⟩:=I.lstM hH
  refine call_meets F.slot_list_append ⟨_,e,rfl⟩ F.entry_list_append (F.args_list_append_2 _ _) (PySem.list_append l its.toArray n u (by rw [List.size_toArray];omega)) ⟨e,?_⟩
  refine ⟨.non,_,I.lset (its':=its++[u]) hH e (by simp) (r.append (.cons ru .nil)) ?_,rfl,q⟩
  rw [List.length_append,List.length_singleton]
  omega
noncomputable def rExtend:V→List V→Hp→VK→Prop:=fun x vs H Q=>∃ l b xs zs,x= .ref l∧vs=[.ref b]∧H l=some (.lst xs)∧H b=some (.lst zs)∧xs.length+zs.length≤sizeLine∧Q .non (upd H l (.lst (xs++zs)))
theorem mt_extend:MtM X "list.extend" rExtend:=by
  intro pins s σ H x vs v us Q I rx rv h
  obtain ⟨l,b,xs,zs,rfl,rfl,hH,hB,hz,q⟩:=h
  cases rx
  obtain ⟨u,rfl,ru⟩:=rv.one
  cases ru
  obtain ⟨z,its,n,r,hl,e⟩:=I.lstM hH
  obtain ⟨z2,its2,n2,r2,hl2,e2⟩:=I.lstM hB
  have hsz:its.toArray.size+its2.toArray.size≤sizeLine:=by rw [List.size_toArray,List.size_toArray];omega
  have hlong:¬ (!its.toArray.isEmpty&&Builtin.List.listTooLong (its.toArray.size+its2.toArray.size))=true:=by
    rw [notLongL hsz,Bool.and_false]
    exact Bool.false_ne_true
  refine call_meets F.slot_list_extend ⟨_,e,rfl⟩ F.entry_list_extend (F.args_list_extend_2 _ _)
    (AutoSeq1.list_extend_list_list_0 l its.toArray n b its2.toArray n2 hlong (by rw [List.size_toArray];omega) (by omega)) ⟨e,e2,?_⟩
  refine ⟨.non,_,I.lset (its':=its++its2) hH e (by simp) (r.append r2) ?_,rfl,q⟩
  rw [List.length_append]
  omega
noncomputable def rRep:R2:=fun x y H Q=>∃ l k xs,x= .ref l∧y= .int k∧H l=some (.lst xs)∧ -(2 ^ 63)≤k∧k<2 ^ 63∧xs.length*k.toNat≤sizeLine∧
  ∀ p,H p=none→Q (.ref p) (upd H p (.lst (List.replicate k.toNat xs).flatten))
theorem len_rep {α:Type} (xs:List α) (k:Nat):(List.replicate k xs).flatten.length=k*xs.length:=by
  induction k with
  | zero=>simp
  | succ k ih=>rw [List.replicate_succ,List.flatten_cons,List.length_append,ih,Nat.succ_mul,Nat.add_comm]
theorem op_rep:OpR X (binaryOp .Mult) rRep:=by
  intro pins s σ H x y v u Q I rx ry h
  obtain ⟨l,k,xs,rfl,rfl,hH,h1,h2,hz,q⟩:=h
  cases rx
  obtain ⟨t,rfl⟩:=ry
  obtain ⟨z,its,n,r,hl,e⟩:=I.lstM hH
  have hlen:its.toArray.size*k.toNat≤sizeLine:=by rw [List.size_toArray, ← hl];exact hz
  have hcap:¬ its.toArray.size*k.toNat>(2 ^ 63 - 1) / 8:=by
    have:(sizeLine:Nat)≤(2 ^ 63 - 1) / 8:=by decide
    omega
  have hfit:¬ (!Builtin.List.listFitsIndex k)=true:=by
    rw [fitsIndex_both h1 h2]
    exact Bool.false_ne_true
  have hlong:¬ Builtin.List.listTooLong (its.toArray.size*k.toNat)=true:=by
    rw [notLongL hlen]
    exact Bool.false_ne_true
  have hnew:List.foldl (fun x1 x2=>x1++x2) #[] (List.replicate (if its.toArray.isEmpty=true then 0 else k.toNat) its.toArray)=(List.replicate k.toNat its).flatten.toArray:=by
    have f0:∀ m:Nat,List.foldl (fun x1 x2=>x1++x2) #[] (List.replicate m its.toArray)=(List.replicate m its).flatten.toArray:=fun m=>by
      have:=foldl_rep its m []
      rw [List.nil_append] at this
      exact this
    rw [f0]
    cases its with
    | nil=>simp
    | cons a r'=>rw [if_neg (by simp)]
  refine wpAny_binaryOp_repeat_ref (T:="list") (U:="int") (by decide) ⟨_,e,rfl⟩ (fun s'=>typeIs_int s' k t) noFill_list_mul F.fills_int_mul F.slot_int_rmul repeat_list F.slot_int_index.lookup
    (call_meets F.slot_int_rmul (typeIs_int s k t) F.entry_int_rmul (F.args_int_rmul_2 _ _) (int___rmul___int_list k t l its.toArray n)
      ⟨e,rfl,⟨_,e,rfl⟩,call_meets F.slot_list_mul ⟨_,e,rfl⟩ F.entry_list_mul (F.args_list_mul_2 _ _) (AutoListH.list___mul___list_int_3 l its.toArray n k t hfit hcap hlong) ⟨e,?_⟩⟩)
  rw [hnew]
  exact ⟨.ref _,_,I.lnew (t':=s.toks) (r.rep k.toNat) (by rw [len_rep,Nat.mul_comm];exact hz),rfl,q _ I.fresh⟩
end
section
variable {prog:Program} {w:World} {A:Around} {E:Value→Shared→Prop} {s:Shared}
end
section
variable {X:Cx}
end
end L2
namespace Att
open PySem PySem.W PySem.Calls PyProof.Rows
theorem ints_of_wellAll {P:Params} {h:Heap}:∀ (ns:List Int) (vs:List Value),WellAll P h vs (ns.map WData.int)→IntsAre vs ns:=by
  intro ns
  induction ns with
  | nil=>
    intro vs w
    rw [List.map_nil] at w
    cases w
    exact .nil
  | cons n ns ih=>
    intro vs w
    rw [List.map_cons] at w
    cases w with
    | cons a b=>
      cases a
      exact .cons _ _ (ih _ b)
theorem script_of {l:OpenLaw} {n:Nat} (hn:l.most=some n) {P:Params} {h:Heap} {args:List WData} {vals:List Value}
    (hpre:l.row.toRowW.claim.pre args=true) (hwl:WellAll P h vals args):
    ∃ a vs ns,vals=[Value.ref a]∧args=[WData.list (ns.map WData.int)]∧h.get? a=some { cls:= .type "list",data:= .seq vs.toArray }∧IntsAre vs ns∧ns.length≤n:=by
  have hsh:WShape.hasAll [] args [.list .int]=true:=(pre_splitW hpre).1
  have hc:l.pre.holds [] { args:=args }=true:=(pre_splitW hpre).2
  obtain ⟨d,r,rfl,h1,h2⟩:=hasAllW_cons hsh
  obtain rfl:=hasAllW_nil h2
  obtain ⟨xs,rfl,h3⟩:=hasW_list h1
  obtain ⟨ns,rfl⟩:=items_int h3
  have hlen:ns.length≤n:=by
    unfold OpenLaw.pre at hc
    have h4:(WTm.not (.lt (.lit (.int (n:Int))) (.len (.arg 0)))).holds [] { args:=[.list (ns.map .int)] }=true:=by
      have h4:=(holds_andW hc).1
      rw [hn] at h4
      exact h4
    have h5:=condW_of h4 (w_not (w_lt w_lit (w_len_list (w_arg rfl))))
    rw [List.length_map] at h5
    refine Nat.le_of_not_lt fun q=> ?_
    have q':(n:Int)<((ns.length:Nat):Int):=by omega
    first
      | (rw [decide_eq_true q'] at h5;exact absurd h5 (by decide))
      | (simp at h5;omega)
  cases hwl with
  | cons w1 w2=>
    cases w2
    cases w1 with
    | list ho hall=>exact ⟨_,_,ns,rfl,rfl,ho,ints_of_wellAll ns _ hall,hlen⟩
theorem post_true (l:OpenLaw) (args:List WData):l.row.toRowW.claim.post args (.bool true) args=true:=
  postW_of (r:=l.row.toRowW) (X:=(true == true))
    (show WShape.has [] (.bool true) .bool=true by first | rfl | decide | simp [WShape.has,WShape.arms,WShape.armsAll])
    (show (WTm.eq .res (.lit (.bool true))).value [] { args:=args,res:=some (.bool true),after:=args }=some (.bool (true == true)) from w_eq_bool (w_res rfl) w_lit) rfl
theorem attach_call {l:OpenLaw} {n:Nat} {q:Program} {loose:List Str} {XP:(Str→Option Value)→Heap→Prop} {YP:World→Heap→Prop} {d:DefRec}
    (hn:l.most=some n) (hdf:d.params.defaults=[])
    (call:∀ (w:World) (s₀ s₁:Shared) (mg mb:Str→Option Value) (fa:Addr) (o:Obj) (pm cd doc:Value) (a:Addr) (vs:List Value) (ns:List Int),
      Ground q loose [] XP w s₀ mg mb s₁.heap→YP w s₁.heap→
      s₁.heap.get? fa=some o→o.data= .func (docDef d.name d.params d.body d.scope pm cd doc)→s₁.heap.CodeRec cd d.name→mg d.name=some (.ref fa)→
      s₁.heap.get? a=some { cls:= .type "list",data:= .seq vs.toArray }→IntsAre vs ns→ns.length≤n→s₁.gens= #[]→
      codeAny (model l.prog w) callerA (.call (.ref fa) ⟨[.ref a],[]⟩) (fun r s'=>r= .ok (.ret (.bool true))∧OldK s₁.heap s'.heap∧s'.os=s₁.os∧AllBare s'.gens) s₁):
    WalkO q loose XP YP l.row.toRowW d [] (fun f vs=>PySem.call f vs):=by
  intro w s₀ s₁ mg mb G Y fa o pm cd doc dV kV ho hd hcd hD hmg hg args vals as hpre hlay hrd hwl hlo
  obtain rfl:dV= .none:=Dflts.none hD hdf
  obtain rfl:kV= .none:=Dflts.noKw hD
  obtain ⟨a,vs,ns,rfl,rfl,hobj,hints,hlen⟩:=script_of hn hpre hwl
  refine enter_call (codeAny_mono (call w s₀ s₁ mg mb fa o pm cd doc a vs ns G Y ho (fd_plain hd) hcd hmg hobj hints hlen hg) fun r s' hq=> ?_)
  obtain ⟨rfl,h2,h3,h4⟩:=hq
  exact ⟨.inl ⟨.bool true, .bool true,[],rfl,fun _=>rfl, .bool true,post_true l _,fun _=>⟨List.Pairwise.nil,fun _ hm=>(nomatch hm)⟩⟩,h2,h3,h4⟩
section
variable {prog:Program} {w:World} {A:Around} {E:Value→Shared→Prop} {s:Shared} {K:Frag}
end
end Att
namespace L2
open PySem PySem.Spec PyProof.Rows
theorem vals_ints:∀ {vs:List Value} {ns:List Int},IntsAre vs ns→Vals (ns.map V.int) vs
  | _,_, .nil=> .nil
  | _,_, .cons n t h=> .cons ⟨t,rfl⟩ (vals_ints h)
noncomputable def Only (H:Hp):Prop:=∀ b,H b=none∨∃ o xs,H b=some (.frz o (.lst xs))
theorem law_call {P:Program} {w:World} {K:PySem.W.Frag} {mg mb:Str→Option Value} {CX:CXT} {k:Nat} {fa a:Addr} {fd:FuncData} {x:Str} {sp:Sp} {s₁:Shared} {vs:List Value} {ns:List Int}
    (KX:K.In s₁.heap) (hns:s₁.heap.Ns mainGlobals mg) (hb:s₁.heap.Ns builtinsNs mb) (hbb:∀ x:Str,x≠"__name__"→mb x=bootBuiltins x) (hlim:s₁.heap.NoLimit) (hg:s₁.gens= #[])
    (ha:s₁.heap.get? a=some { cls:= .type "list",data:= .seq vs.toArray }) (hi:IntsAre vs ns) (hl:ns.length≤sizeLine) (hr:Room k callerA)
    (F:∀ base:Heap,K.In base→base.Ns mainGlobals mg→FnOk P w K mg base CX k fa fd [x] sp) (hbind:∀ (s:Shared) (u:Value),BindsTo s fd ⟨[u],[]⟩ [(x,u)])
    (hsp:∀ H:Hp,Only H→SqL K H a (ns.map V.int)→sp [.ref a] H (fun v _=>v= .bl true) fun _ _ _=>False)
    (hCX:∀ H e s',CX [] H s₁ (fun _ _ _=>False) e s'→False):
    codeAny (model P w) callerA (.call (.ref fa) ⟨[.ref a],[]⟩) (fun r s'=>r= .ok (.ret (.bool true))∧OldK s₁.heap s'.heap∧s'.os=s₁.os∧AllBare s'.gens) s₁:=by
  have rv:=vals_ints hi
  have lenV:=hi.length
  have core:∀ H:Hp,Only H→SqL K H a (ns.map V.int)→HOk P w H s₁.heap→(∀ b,H b≠none→b=a)→(H a≠none→K.lookup a=none)→
      codeAny (model P w) callerA (.call (.ref fa) ⟨[.ref a],[]⟩) (fun r s'=>r= .ok (.ret (.bool true))∧OldK s₁.heap s'.heap∧s'.os=s₁.os∧AllBare s'.gens) s₁:=by
    intro H hO hS hok hA hK
    have base_of:∀ {b:Addr} {o:Obj},s₁.heap.get? b=some o→H b=none→(hidT s₁.heap H).get? b=some o:=fun e n=>hidT_get e n
    have noA:∀ {b:Addr} {o:Obj} {es:Array DictEntry} {ep:Nat},s₁.heap.get? b=some o→o.data= .dict es ep→H b=none:=fun {b o es ep} e d=>by
      cases q:H b with
      | none=>rfl
      | some u=>
        have e':b=a:=hA b (by rw [q];simp)
        subst e'
        rw [ha] at e;cases e
        have d':Data.seq vs.toArray _=Data.dict es ep:=d
        cases d'
    have nsK:∀ {b:Addr} {m:Str→Option Value},s₁.heap.Ns b m→(hidT s₁.heap H).Ns b m:=fun {b m} ⟨o,es,ep,e,d,r⟩=>⟨o,es,ep,base_of e (noA e d),d,r⟩
    have hKb:K.In (hidT s₁.heap H):=fun b o e=>base_of (KX b o e) (by
      cases q:H b with
      | none=>rfl
      | some u=>
        have e':b=a:=hA b (by rw [q];simp)
        subst e'
        rw [hK (by rw [q];simp)] at e;cases e)
    have hM:Mod K mg (hidT s₁.heap H):=⟨hKb,nsK hns,⟨mb,nsK hb,hbb⟩,let ⟨mc,h1,h2⟩:=hlim;⟨mc,nsK h1,h2⟩⟩
    have e0:Env0 P w K mg (hidT s₁.heap H) callerA [] s₁ H:=⟨rfl,hM,fun b o e=>of_hidT e,Nat.le_of_eq (hidT_size _ _),trivial,fun b hb=>absurd (show b∈([]:List Addr) from hb) (by simp),hok, .of_eq hg⟩
    refine codeAny_mono ((F _ hKb (nsK hns)).run callerA [] s₁ H ⟨[.ref a],[]⟩ [.ref a] [.ref a] _ _ hr e0 (hbind s₁ (.ref a)) (.cons rfl .nil) (hsp H hO hS)) fun r s' h=> ?_
    cases r with
    | error e=>exact (hCX H e s' h).elim
    | ok fl=>
      cases fl with
      | next=>exact False.elim h
      | brk=>exact False.elim h
      | cont=>exact False.elim h
      | ret u=>
        obtain ⟨v,H',os,bare,un,hok',r',q⟩:=h
        have q':v= .bl true:=q
        subst q'
        obtain rfl:u=Value.bool true:=r'
        refine ⟨rfl,OldK.of_keep fun b o e=> ?_,os,bare⟩
        cases q:H b with
        | none=>exact un.keep b o e q (by intro z;exact absurd (show b∈([]:List Addr) from z) (by simp)) (by simp)
        | some u=>
          rcases hO b with z | ⟨ob,xs,z⟩
          · rw [q] at z;cases z
          · have z2:=un.frzs b ob _ z
            obtain ⟨e1,_⟩:=hok b _ z
            obtain ⟨e2,_⟩:=hok' b _ z2
            rw [e] at e1;cases e1
            exact e2
  cases hk:K.lookup a with
  | some o=>
    have e:=KX a o hk
    rw [ha] at e
    cases e
    refine core (fun _=>none) (fun _=> .inl rfl) (.inr ⟨_,vs.toArray,_,hk,rfl,rfl,rfl,by rw [List.size_toArray,lenV];exact hl,by simpa using rv⟩) (fun b u z=>by have z':(none:Option HO)=some u:=z;cases z') (fun b z=>absurd rfl z) fun z=>absurd rfl z
  | none=>
    refine core (fun b=>if b=a then some (.frz { cls:= .type "list",data:= .seq vs.toArray } (.lst (ns.map V.int))) else none) (fun b=> ?_) (.inl (.inr ⟨{ cls:= .type "list",data:= .seq vs.toArray },if_pos rfl⟩)) (fun b u z=> ?_) (fun b z=> ?_) fun _=>hk
    · by_cases hb:b=a
      · exact .inr ⟨_,_,if_pos hb⟩
      · exact .inl (if_neg hb)
    · by_cases hb:b=a
      · have z':=(if_pos hb).symm.trans z
        cases z'
        subst hb
        exact ⟨ha,by rw [List.length_map];exact hl,vs,_,rv,ha⟩
      · have z':=(if_neg hb).symm.trans z
        cases z'
    · by_cases hb:b=a
      · exact hb
      · exact absurd (if_neg hb) z
end L2
namespace L2
open PySem PySem.Spec PyProof.Rows
theorem walk_of {l:PySem.W.OpenLaw} {n k:Nat} {q:Program} {loose:List Str} {XP:(Str→Option Value)→Heap→Prop} {YP:World→Heap→Prop} {d:DefRec} {K:Params→PySem.W.Frag} {CX:World→CXT} {sp:World→Sp} {x:Str}
    (hn:l.most=some n) (hn2:n≤sizeLine) (hdf:d.params.defaults=[]) (hr:Room k callerA)
    (hY:∀ (w:World) (h:Heap),YP w h→(K w.params).In h)
    (F:∀ (w:World) (mg:Str→Option Value) (fa:Addr) (h:Heap),(K w.params).In h→h.Ns mainGlobals mg→mg d.name=some (.ref fa)→
      ∃ fd:FuncData,(∀ (s:Shared) (u:Value),BindsTo s fd ⟨[u],[]⟩ [(x,u)])∧
        ∀ base:Heap,(K w.params).In base→base.Ns mainGlobals mg→FnOk l.prog w (K w.params) mg base (CX w) k fa fd [x] (sp w))
    (hsp:∀ (w:World) (H:Hp) (a:Addr) (ns:List Int),ns.length≤n→Only H→SqL (K w.params) H a (ns.map V.int)→sp w [.ref a] H (fun v _=>v= .bl true) fun _ _ _=>False)
    (hCX:∀ (w:World) (H:Hp) (s:Shared) (e:Value) (s':Shared),CX w [] H s (fun _ _ _=>False) e s'→False):
    PySem.W.WalkO q loose XP YP l.row.toRowW d [] (fun f vs=>PySem.call f vs):=by
  refine Att.attach_call hn hdf fun w s₀ s₁ mg mb fa o pm cd doc a vs ns G Y ho hd hcd hmg hobj hints hlen hg=> ?_
  have KX:=hY w _ Y
  obtain ⟨fd,hb,hF⟩:=F w mg fa _ KX G.T.g hmg
  exact law_call KX G.T.g G.T.b G.T.builtins G.T.nolimit hg hobj hints (Nat.le_trans hlen hn2) hr hF hb (fun H hO hS=>hsp w H a ns hlen hO hS) fun H e s'=>hCX w H s₁ e s'
end L2
namespace L2
open PySem PySem.Spec PyProof.Rows
noncomputable abbrev CX0:CXT:=fun _ _ _ _ _ _=>False
noncomputable abbrev E0:XK:=fun _ _ _=>False
theorem pass0 {X:Cx}:Passes CX0 X E0:=fun _ _ _ _ _ _ _ h=>h.elim
structure Fun (K:PySem.W.Frag) (x qual:Str) (st:Stmt) (f:Addr) (fd:FuncData):Prop where
  ex:∃ (oc:Value) (od:Option Addr) (kV doc pm:Value) (an:Option Addr) (cdv ct:Value) (osl:Array (Option Value)),
    fd=PySem.W.fnOf x qual (defArgs st) (defBody st) (defScope st) .none kV doc pm an cdv ct∧K.lookup f=some ⟨oc,od, .func fd,osl⟩∧PySem.W.codeIn K cdv qual=true
  kp:PySem.W.keepIn K (.ref f)=true
section
variable {P:Program} {w:World} {K:PySem.W.Frag} {mg:Str→Option Value} {base:Heap}
theorem Fun.ok {x qual:Str} {st:Stmt} {f:Addr} {fd:FuncData} {N ps:List Str} {k:Nat} {sp:Sp} (F:Fun K x qual st f fd) (S:FnScope N ps (defScope st)) (len:∀ vs H Q E,sp vs H Q E→vs.length=ps.length)
    (hbody:∀ (cdv:Value) (A:Around) (outer:List Env) (s:Shared) (H:Hp) (vs:List V) (Q:VK) (E:XK),Room k (A.deeper (envOfC qual (defScope st) s.heap.objs.size f cdv))→sp vs H Q E→
      ∃ t,PSs (cxOf CX0 P w K mg base N qual (defScope st) f cdv A outer s H E).nox (defBody st) t∧t { nx:=fun _ H'=>Q .non H',rt:=Q } (start N vs) H):FnOk P w K mg base CX0 (k+1) f fd ps sp:=by
  obtain ⟨oc,od,kV,doc,pm,an,cdv,ct,osl,rfl,lk,hcd⟩:=F.ex
  refine fn_of lk hcd S len fun A outer s H vs Q E hr hsp=> ?_
  obtain ⟨t,h,q⟩:=hbody cdv A outer s H vs Q E hr hsp
  exact ⟨t,h.nox,q⟩
theorem Fun.binds {x qual:Str} {st:Stmt} {f:Addr} {fd:FuncData} {ps:List Str} (F:Fun K x qual st f fd)
    (h:∀ (kV doc pm:Value) (an:Option Addr) (cdv ct:Value) (us:List Value),us.length=ps.length→bindArgs (PySem.W.fnOf x qual (defArgs st) (defBody st) (defScope st) .none kV doc pm an cdv ct) ⟨us,[]⟩=pure (ps.zip us)):Binds K fd ps []:=by
  obtain ⟨oc,od,kV,doc,pm,an,cdv,ct,osl,rfl,lk,hcd⟩:=F.ex
  exact .all (h kV doc pm an cdv ct)
theorem fun_mk {x qual:Str} {st:Stmt} {f:Addr} {oc:Value} {od an:Option Addr} {osl:Array (Option Value)} {kV doc pm cdv ct:Value} (l:K.lookup f=some ⟨oc,od, .func (PySem.W.fnOf x qual (defArgs st) (defBody st) (defScope st) .none kV doc pm an cdv ct),osl⟩)
    (c:PySem.W.codeIn K cdv qual=true) (k:PySem.W.keepIn K (.ref f)=true):Fun K x qual st f (PySem.W.fnOf x qual (defArgs st) (defBody st) (defScope st) .none kV doc pm an cdv ct):=⟨⟨oc,od,kV,doc,pm,an,cdv,ct,osl,rfl,l,c⟩,k⟩
end
section
variable {X:Cx}
theorem pv (i:Nat) {x:Str} {pos:Pos} (hN:X.N[i]?=some x:=by rfl) (hv:Vis X.env.scope x:=by first | exact Or.inl rfl | exact Or.inr (Or.inl rfl) | exact Or.inr (Or.inr rfl)) (hd:(x == ("__debug__":Str))=false:=by decide)
    (hcd:(x == ("__classdict__":Str))=false:=by decide):PE X (.Name x pos) (tVar i):=pe_var hN hv hd hcd
end
theorem iteF {A B:Prop} (h:B):if false=true then A else B:=by
  rw [if_neg Bool.false_ne_true]
  exact h
theorem iteT {A B:Prop} (h:A):if true=true then A else B:=by
  rw [if_pos rfl]
  exact h
noncomputable def Same (H H':Hp):Prop:=∀ b o,H b=some o→H' b=some o
theorem Same.refl (H:Hp):Same H H:=fun _ _ h=>h
theorem Same.trans {H H1 H2:Hp} (a:Same H H1) (b:Same H1 H2):Same H H2:=fun c o h=>b c o (a c o h)
theorem Same.free {H H':Hp} (e:Same H H') {l:Addr} (h:H' l=Option.none):H l=Option.none:=by
  cases q:H l with
  | none=>rfl
  | some o=>
    rw [e l o q] at h
    cases h
theorem Same.seq {K:PySem.W.Frag} {H H':Hp} {a:Addr} {xs:List V} (e:Same H H') (h:SqL K H a xs):SqL K H' a xs:=by
  rcases h with (h | ⟨o,h⟩) | h
  · exact .inl (.inl (e _ _ h))
  · exact .inl (.inr ⟨o,e _ _ h⟩)
  · exact .inr h
end L2
namespace L2
open PySem PySem.Spec PyProof.Rows
section
variable {κ:Type} [DecidableEq κ]
theorem KV.length {kvs:List (κ × V)} {vs:List (κ × Value)} (r:KV kvs vs):kvs.length=vs.length:=Paired.length r
end
section
variable {P:Program} {w:World} {H:Hp} {h:Heap} {a:Addr}
end
section
variable {X:Cx} {pins:List (Addr × Obj)} {σ:St} {H:Hp} {s:Shared} {a:Addr} {y v:V} {u r:Value} {o:Option V} {A:Around} {E:Value→Shared→Prop}
end
section
variable {X:Cx} {pins:List (Addr × Obj)} {σ:St} {H:Hp} {s:Shared} {a:Addr} {kvs:List (Key × V)} {k:Key} {u:Value} {A:Around} {E:Value→Shared→Prop}
end
section
variable {X:Cx} {o i e value:Expr} {pos pos' tpos:Pos} {td ty tv:TE}
end
section
variable {X:Cx} {pos:Pos}
end
structure M1 (X:Cx) (o:Expr) (m:Str) (apos:Pos) (e:Expr) (cpos:Pos):Prop where
  base:attributeBase o m X.env (eval o X.env)=eval o X.env
  few:((backTo cpos (starEach [e] X.env)).all (fun x=> !x.1)&&(backToKw cpos (keywordEach [] X.env)).all (fun x=>x.1.isSome)
    && decide (([e]:List Expr).length+([]:List Keyword).length+(if ([]:List Keyword).isEmpty then 0 else 1)<30))=true
  line:(apos.endLine == cpos.line)=true
  trees:backTo cpos (starEach [e] X.env)=[(false,eval e X.env)]
structure M2 (X:Cx) (o:Expr) (m:Str) (apos:Pos) (e f:Expr) (cpos:Pos):Prop where
  base:attributeBase o m X.env (eval o X.env)=eval o X.env
  few:((backTo cpos (starEach [e,f] X.env)).all (fun x=> !x.1)&&(backToKw cpos (keywordEach [] X.env)).all (fun x=>x.1.isSome)
    && decide (([e,f]:List Expr).length+([]:List Keyword).length+(if ([]:List Keyword).isEmpty then 0 else 1)<30))=true
  line:(apos.endLine == cpos.line)=true
  trees:backTo cpos (starEach [e,f] X.env)=[(false,eval e X.env),(false,eval f X.env)]
section
variable {X:Cx} {pins:List (Addr × Obj)} {σ:St} {H:Hp} {s:Shared} {a:Addr} {y d:V} {u r:Value} {o:Option V} {A:Around} {E:Value→Shared→Prop}
end
section
variable {X:Cx} {o e f:Expr} {apos cpos:Pos} {td ty tx:TE}
end
section
variable {X:Cx} {pins:List (Addr × Obj)} {σ:St} {H:Hp} {s:Shared} {a:Addr} {kvs:List (Key × V)} {A:Around} {E:Value→Shared→Prop}
end
section
variable {X:Cx} {pins:List (Addr × Obj)} {σ:St} {H:Hp} {s:Shared} {a:Addr} {y:V} {u:Value} {A:Around} {E:Value→Shared→Prop}
end
end L2
namespace L2
open PySem PySem.Spec PyProof.Rows
section
variable {P:Program} {w:World} {K:PySem.W.Frag} {mg:Str→Option Value} {base:Heap}
end
section
variable {X:Cx}
end
section
variable {κ:Type} [DecidableEq κ]
end
end L2
namespace L2
open PySem PySem.Spec PyProof.Rows
noncomputable def closOf (cells:List (Str × Addr)):List (Str × NameKind)→List (Str × Addr)→List (Str × Addr)
  | [],acc=>acc
  | (n,k)::r,acc=>closOf cells r (if k= .free then (match cells.lookup n with | some a=>(n,a)::acc | none=>acc) else acc)
theorem closureFor_go {env:Env}:∀ (names:List (Str × NameKind)) (acc:List (Str × Addr)),(∀ y∈names,y.2= .free→∃ c,env.cells.lookup y.1=some c)→
    (forIn names acc fun (x:Str × NameKind) (r:List (Str × Addr))=>
      (if (x.2 == NameKind.free)=true then (do let a ← cellOf env x.1;pure (ForInStep.yield ((x.1,a)::r))) else pure (ForInStep.yield r):Sem (ForInStep (List (Str × Addr)))))=(pure (closOf env.cells names acc):Sem (List (Str × Addr)))
  | [],acc,_=>rfl
  | (n,k)::rest,acc,h=>by
    rw [List.forIn_cons]
    have ih:=fun acc'=>closureFor_go (env:=env) rest acc' fun y hy=>h y (List.mem_cons_of_mem _ hy)
    by_cases hk:k= .free
    · subst hk
      obtain ⟨c,hc⟩:=h (n, .free) List.mem_cons_self rfl
      have hc:env.cells.lookup n=some c:=hc
      have e:cellOf env n=pure c:=by unfold cellOf;rw [hc]
      simp only [beq_self_eq_true,if_true,e,pure_bind,closOf,hc]
      exact ih _
    · have hb:(k == NameKind.free)=false:=by simpa using hk
      simp only [hb,Bool.false_eq_true,if_false,pure_bind,closOf,if_neg hk]
      exact ih _
theorem closureFor_eq {env:Env} {scope:Scope} (h:∀ y∈scope.names,y.2= .free→∃ c,env.cells.lookup y.1=some c):closureFor scope env=pure (closOf env.cells scope.names []):=by
  have e:=closureFor_go (env:=env) scope.names [] h
  unfold closureFor
  simp only [bind_pure_comp,bind_pure,map_pure] at*
  exact e
theorem closOf_sub {cells:List (Str × Addr)}:∀ (names:List (Str × NameKind)) (acc:List (Str × Addr)),(∀ x c,acc.lookup x=some c→cells.lookup x=some c)→∀ x c,(closOf cells names acc).lookup x=some c→cells.lookup x=some c
  | [],acc,h,x,c,e=>h x c e
  | (n,k)::r,acc,h,x,c,e=>by
    refine closOf_sub r _ ?_ x c e
    intro y d q
    split at q
    · split at q
      · rename_i a ha
        rw [List.lookup_cons] at q
        split at q
        · rename_i hy
          cases q
          rw [eq_of_beq hy]
          exact ha
        · exact h y d q
      · exact h y d q
    · exact h y d q
theorem closOf_has {cells:List (Str × Addr)}:∀ (names:List (Str × NameKind)) (acc:List (Str × Addr)) (x:Str),(((x,NameKind.free)∈names∧∃ c,cells.lookup x=some c)∨∃ c,acc.lookup x=some c)→∃ c,(closOf cells names acc).lookup x=some c
  | [],acc,x,h=>by
    rcases h with ⟨h,_⟩ | h
    · cases h
    · exact h
  | (n,k)::r,acc,x,h=>by
    refine closOf_has r _ x ?_
    have up:(∃ c,acc.lookup x=some c)→∃ c,(if k= .free then (match cells.lookup n with | some a=>(n,a)::acc | none=>acc) else acc).lookup x=some c:=by
      rintro ⟨c,hc⟩
      split
      · split
        · rename_i a ha
          rw [List.lookup_cons]
          split
          · exact ⟨_,rfl⟩
          · exact ⟨c,hc⟩
        · exact ⟨c,hc⟩
      · exact ⟨c,hc⟩
    rcases h with ⟨h,c,hc⟩ | h
    · rcases List.mem_cons.mp h with e | e
      · cases e
        right
        refine ⟨c,?_⟩
        rw [if_pos rfl,hc,List.lookup_cons,beq_self_eq_true]
      · exact .inl ⟨e,c,hc⟩
    · exact .inr (up h)
theorem lookup_rel (env:Env) (x:Str):∀ names:List (Str × NameKind),
    (names.map fun (n,k)=>if (k == NameKind.free&&env.scope.kind == .function&&env.kindOf n == some .cell) then (n,NameKind.cell) else (n,k)).lookup x=
      (names.lookup x).map fun k=>if (k == NameKind.free&&env.scope.kind == .function&&env.kindOf x == some .cell)=true then NameKind.cell else k
  | []=>rfl
  | (n,k)::r=>by
    have ih:=lookup_rel env x r
    show List.lookup x ((if (k == NameKind.free&&env.scope.kind == .function&&env.kindOf n == some .cell)=true then (n,NameKind.cell) else (n,k))::_)=_
    cases hx:x == n with
    | true=>
      have e:x=n:=eq_of_beq hx
      subst e
      by_cases hc:(k == NameKind.free&&env.scope.kind == .function&&env.kindOf x == some .cell)=true
      · rw [if_pos hc,List.lookup_cons,List.lookup_cons,beq_self_eq_true]
        simp only [Option.map_some,if_pos hc]
      · rw [if_neg hc,List.lookup_cons,List.lookup_cons,beq_self_eq_true]
        simp only [Option.map_some,if_neg hc]
    | false=>
      have e:(List.lookup x ((n,k)::r))=List.lookup x r:=by rw [List.lookup_cons,hx]
      rw [e, ← ih]
      split <;> rw [List.lookup_cons,hx]
structure BlkScope (X:Cx) (scope:Scope) (own:List Str) (fr:List (Str × Nat)):Prop where
  kind:scope.kind= .function
  nocell:∀ y∈scope.names,y.2≠ .cell
  loc:∀ y∈scope.names,y.2= .local→scope.names.lookup y.1=some .local
  free:∀ y∈scope.names,y.2= .free→(X.env.scope.names.lookup y.1=some .cell∨X.env.scope.names.lookup y.1=some .free)
  fr:∀ p∈fr,X.N[p.2]?=some p.1∧(p.1,NameKind.free)∈scope.names
  only:∀ x,(x,NameKind.free)∈scope.names→scope.names.lookup x=some .free
noncomputable def blkCx (X:Cx) (scope:Scope) (own:List Str) (fr:List (Str × Nat)) (C:Addr) (ex:List Addr) (s:Shared) (H:Hp):Cx where
  prog:=X.prog
  w:=X.w
  K:=X.K
  mg:=X.mg
  base:=X.base
  A:=X.A
  N:=own++fr.map (·.1)
  s₀:=s
  H₀:=H
  env:=compEnvC scope (closOf X.env.cells scope.names []) C X.env
  outer:=X.stack
  stack:=X.stack
  ex:=ex
  fn:=fun _=>false
  calm:=X.calm
  pn:=[]
  xe:=fun _ _=>False
noncomputable def blkSt (own:List Str) (fr:List (Str × Nat)) (σ:St):St:=own.map (fun _=>none)++fr.map (fun p=>(σ[p.2]?).getD none)
section
variable {X:Cx} {pins:List (Addr × Obj)} {σ:St} {H:Hp} {s:Shared} {scope:Scope} {own:List Str} {fr:List (Str × Nat)} {fp:List Addr}
theorem BlkScope.cells (S:BlkScope X scope own fr) (ok:X.Ok):∀ y∈scope.names,y.2= .free→∃ c,X.env.cells.lookup y.1=some c:=fun y hy e=>ok.has y.1 (S.free y hy e)
theorem Inv.block {h':Heap} {t':Nat} {m:Str→Option Value} (I:Inv X pins σ H s) (S:BlkScope X scope own fr) (hf:∀ b∈fp,FpOk X pins H b) (hlt:∀ b∈fp,b<s.heap.objs.size)
    (hns:h'.Ns s.heap.objs.size m) (k:∀ b o,s.heap.get? b=some o→h'.get? b=some o):
    Inv (blkCx X scope own fr s.heap.objs.size fp s H) [] (blkSt own fr σ) H { s with heap:=h',toks:=t' }:=by
  have cs:∀ x c,(closOf X.env.cells scope.names []).lookup x=some c→X.env.cells.lookup x=some c:=closOf_sub _ _ (fun _ _ e=>by simp at e)
  have ck:∀ c v,s.heap.IsCell c v→h'.IsCell c v:=fun c v ⟨o,ho,hd⟩=>⟨o,k _ _ ho,hd⟩
  have kf:∀ x,(x,NameKind.free)∈scope.names→∃ c,X.env.cells.lookup x=some c∧(closOf X.env.cells scope.names []).lookup x=some c:=fun x hx=>by
    obtain ⟨c0,e0⟩:=S.cells I.ok (x, .free) hx rfl
    obtain ⟨c,e⟩:=closOf_has (cells:=X.env.cells) scope.names [] x (.inl ⟨hx,c0,e0⟩)
    exact ⟨c,cs _ _ e,e⟩
  have rel:∀ x,(compEnvC scope (closOf X.env.cells scope.names []) s.heap.objs.size X.env).kindOf x=(scope.names.lookup x).map fun k=>if (k == NameKind.free&&X.env.scope.kind == .function&&X.env.kindOf x == some .cell)=true then NameKind.cell else k:=fun x=>lookup_rel X.env x scope.names
  have nc:∀ x,scope.names.lookup x≠some .cell:=fun x e=>S.nocell _ (PySem.mem_of_lookup e) rfl
  refine ⟨⟨I.ok.mod,S.kind,I.ok.glob,I.ok.blt,Nat.le_refl _,fun x y c e1 e2=>I.ok.inj x y c (cs _ _ e1) (cs _ _ e2),fun x hx=> ?_,fun x c e _=>(nomatch e),I.ok.hd,I.ok.frames, .inl rfl,
    fun b hb=>⟨Nat.ne_of_lt (hlt b hb),fun x c e=>(hf b hb).2.2.2.2.1 x c (cs _ _ e)⟩,I.bs,Nat.le_trans I.ok.bsz I.sz,fun b o e hb=> ?_,fun b hb z=>(List.mem_cons.mp (I.stkSub b z)).elim (hf b hb).2.1 (hf b hb).2.2.1,I.stack,I.stkFree⟩,
    rfl,I.bare,Un.kept k,⟨m,hns,fun i x v e1 e2 e3=> ?_⟩,fun x c e=> ?_,I.hok.fresh (Nat.le_refl _),fun x c e=>I.freeC x c (cs _ _ e),fun p hp=>absurd (show p∈([]:List (Addr × Obj)) from hp) (by simp),I.hok.kept k,?_⟩
  · have hx:(compEnvC scope (closOf X.env.cells scope.names []) s.heap.objs.size X.env).kindOf x=some .cell∨(compEnvC scope (closOf X.env.cells scope.names []) s.heap.objs.size X.env).kindOf x=some .free:=hx
    rw [rel x] at hx
    have q:scope.names.lookup x=some .free:=by
      cases e:scope.names.lookup x with
      | none=>rw [e] at hx;simp at hx
      | some kk=>
        rw [e] at hx
        simp only [Option.map_some,Option.some.injEq] at hx
        by_cases hk:kk= .free
        · rw [hk]
        · have hb:(kk == NameKind.free)=false:=by simpa using hk
          simp only [hb,Bool.false_and,Bool.false_eq_true,if_false] at hx
          rcases hx with hx | hx
          · rw [hx] at e;exact absurd e (nc x)
          · exact absurd hx hk
    obtain ⟨c,_,e⟩:=kf x (PySem.mem_of_lookup q)
    exact ⟨c,e⟩
  · rcases (hf b hb).2.2.2.1 with z | z
    · exact I.ok.noex b o e z
    · exact absurd (Nat.lt_of_lt_of_le (Heap.lt_size (I.ok.bs b o e).1) z) (Nat.lt_irrefl _)
  · have e1:(own++fr.map (·.1))[i]?=some x:=e1
    have e2:(blkSt own fr σ)[i]?=some (some v):=e2
    unfold blkSt at e2
    by_cases hi:i<own.length
    · rw [List.getElem?_append_left (by simpa using hi),List.getElem?_map] at e2
      rw [List.getElem?_eq_getElem hi] at e2
      simp at e2
    · rw [List.getElem?_append_right (by simpa using hi),List.getElem?_map,List.length_map] at e2
      rw [List.getElem?_append_right (by omega),List.getElem?_map] at e1
      cases ep:fr[i - own.length]? with
      | none=>rw [ep] at e1;simp at e1
      | some p=>
        rw [ep] at e1 e2
        simp only [Option.map_some,Option.some.injEq] at e1 e2
        subst e1
        obtain ⟨h1,h2⟩:=S.fr p (List.mem_of_getElem? ep)
        have e4:σ[p.2]?=some (some v):=by
          cases q:σ[p.2]? with
          | none=>rw [q] at e2;simp at e2
          | some z=>rw [q] at e2;simp at e2;rw [e2]
        have kx:=S.free _ h2 rfl
        obtain ⟨m0,hn0,hl0⟩:=I.loc
        obtain ⟨u,r,l⟩:=hl0 p.2 p.1 v h1 e4 (kx.elim (fun z=> .inr (.inl z)) fun z=> .inr (.inr z))
        refine ⟨u,r,?_⟩
        rcases l with ⟨z,_⟩ | ⟨_,c,hc,hcell⟩
        · have z:X.env.scope.names.lookup p.1=some .local:=z
          rcases kx with y | y <;> (rw [y] at z;cases z)
        · obtain ⟨c',q1,q2⟩:=kf p.1 h2
          rw [hc] at q1
          cases q1
          refine .inr ⟨?_,c,q2,ck _ _ hcell⟩
          show (compEnvC scope (closOf X.env.cells scope.names []) s.heap.objs.size X.env).kindOf p.1=some .cell∨(compEnvC scope (closOf X.env.cells scope.names []) s.heap.objs.size X.env).kindOf p.1=some .free
          have e3:(compEnvC scope (closOf X.env.cells scope.names []) s.heap.objs.size X.env).kindOf p.1=some .local∨(compEnvC scope (closOf X.env.cells scope.names []) s.heap.objs.size X.env).kindOf p.1=some .cell∨(compEnvC scope (closOf X.env.cells scope.names []) s.heap.objs.size X.env).kindOf p.1=some .free:=e3
          rcases e3 with e3 | e3
          · exfalso
            rw [rel] at e3
            cases e:scope.names.lookup p.1 with
            | none=>rw [e] at e3;cases e3
            | some kk=>
              rw [e] at e3
              simp only [Option.map_some,Option.some.injEq] at e3
              by_cases hk:kk= .free
              · subst hk;split at e3 <;> cases e3
              · have hb:(kk == NameKind.free)=false:=by simpa using hk
                simp only [hb,Bool.false_and,Bool.false_eq_true,if_false] at e3
                subst e3
                have:=S.only p.1 h2
                rw [this] at e
                cases e
          · exact e3
  · obtain ⟨v,z⟩:=I.cell x c (cs _ _ e)
    exact ⟨v,ck _ _ z⟩
  · unfold blkSt
    show _=(own++fr.map (·.1)).length
    simp
end
end L2
namespace L2
open PySem PySem.Spec PyProof.Rows
theorem compLoop_go {prog:Program} {w:World} {A:Around} {R:Result→Shared→Prop} {s:Shared} {elt target iter:Expr} {ifs:List Expr} {scope:Scope} {pos:Pos} {it acc:Value} {env:Env} (I:Nat→Shared→Prop)
    (turn:∀ n s,I n s→wpAny (model prog w) A (pyNext it) (fun r s₁=>match r with
      | none=>R (.ok .next) s₁
      | some v=>wpAny (model prog w) A (letOwnedTupleGo target it v) (fun _ s₁'=>wpAny (model prog w) A (assign target env v) (fun _ s₂=>
          wpAny (model prog w) A (forIn ifs true fun c r=>if r=true then do let ok ← isTrue c env (eval c env);pure (ForInStep.yield ok) else pure (ForInStep.yield r)) (fun ok s₃=>
            if ok=true then wpAny (model prog w) A (eval elt env) (fun x s₄=>
              wpAny (model prog w) A (call (.builtin "list.append") [acc,x]) (fun _ s₅=>∃ m,m<n∧I m s₅) (fun _ _=>False) s₄) (fun _ _=>False) s₃
            else ∃ m,m<n∧I m s₃) (fun _ _=>False) s₂) (fun _ _=>False) s₁') (fun _ _=>False) s₁) (fun _ _=>False) s)
    (n:Nat) (h:I n s):codeAny (model prog w) A (.compLoop (.ListComp elt [⟨target,iter,ifs,0⟩] scope pos) 0 it acc env) R s:=by
  refine codeAny_loop rfl I (fun n s hI=> ?_) n h
  show wpAny _ A ((compTurn (.ListComp elt [⟨target,iter,ifs,0⟩] scope pos) 0 it acc env).onRaise (fun x=>do noteFrame x env;theTreesLotGoes x)) _ _ s
  refine wpAny_noted ?_
  rw [compTurn_list]
  refine wpAny_bind (wpAny_standAt (wpAny_bind (wpAny_mono (turn n s hI) (fun r s₁ h₁=> ?_) fun _ _ f=>f.elim)))
  cases r with
  | none=>exact wpAny_pure h₁
  | some v=>
    refine wpAny_bind (wpAny_mono h₁ (fun _ s₁' h₁'=>wpAny_bind (wpAny_mono h₁' (fun _ s₂ h₂=>wpAny_bind (wpAny_mono h₂ (fun ok s₃ h₃=> ?_) fun _ _ f=>f.elim)) fun _ _ f=>f.elim)) fun _ _ f=>f.elim)
    cases ok with
    | false=>exact wpAny_pure ⟨rfl,h₃⟩
    | true=>
      exact wpAny_bind (wpAny_bind (wpAny_mono h₃ (fun x s₄ h₄=>wpAny_bind (wpAny_mono h₄ (fun _ s₅ h₅=>wpAny_pure (wpAny_pure ⟨rfl,h₅⟩)) fun _ _ f=>f.elim)) fun _ _ f=>f.elim))
section
variable {X:Cx}
noncomputable def PTs (X:Cx) (ifs:List Expr) (tc:TT):Prop:=
  ∀ (pins:List (Addr × Obj)) (s:Shared) (σ:St) (H:Hp) (Q:Bool→Hp→Prop),Inv X pins σ H s→tc σ H Q→
    wpAny (model X.prog X.w) X.A (forIn ifs true fun c r=>if r=true then do let ok ← isTrue c X.env (eval c X.env);pure (ForInStep.yield ok) else pure (ForInStep.yield r)) (TP X pins σ Q) X.xe s
noncomputable def tYes:TT:=fun _ H Q=>Q true H
theorem pts_nil:PTs X [] tYes:=fun _ _ _ H _ I h=>wpAny_tests_nil ⟨H,I,h⟩
theorem pts_one {c:Expr} {tc:TT} (h:PT X c tc):PTs X [c] tc:=fun pins s σ H Q I q=>wpAny_tests_one (h pins s σ H Q I q)
noncomputable def Kp (σ0 σ:St):Prop:=σ.length=σ0.length∧∀ (i:Nat) (v:V),σ0[i]?=some (some v)→σ[i]?=some (some v)
theorem Kp.refl (σ:St):Kp σ σ:=⟨rfl,fun _ _ h=>h⟩
theorem Kp.set {σ0 σ:St} {i:Nat} {v:V} (k:Kp σ0 σ) (h:σ0[i]?=some none):Kp σ0 (σ.set i (some v)):=by
  refine ⟨by rw [List.length_set];exact k.1,fun j u e=> ?_⟩
  by_cases hj:i=j
  · subst hj;rw [h] at e;cases e
  · rw [List.getElem?_set_ne hj];exact k.2 j u e
noncomputable def CompW (J:It) (σ0:St) (g:TG) (tc:TT) (te:TE) (Q:VK) (H1:Hp) (D:Addr):Prop:=
  ∃ W:Nat→Nat→List V→Hp→Prop,(∃ m,W 0 m [] (upd H1 D (.lst [])))∧∀ i m ys H,W i m ys H→
    (J.stop i H∧Q (.ref D) H)∨(J.go i H∧∃ N:List V→Hp→Prop,(∀ ys' H',N ys' H'→∃ m',m'<m∧W (i+1) m' ys' H')∧∀ x H',J.yld i H x H'→g x σ0 H' fun σ2 H2=>Kp σ0 σ2∧tc σ2 H2 fun b H3=>
      if b=true then te σ2 H3 fun y H4=>H4 D=some (.lst ys)∧ys.length<sizeLine∧N (ys++[y]) (upd H4 D (.lst (ys++[y]))) else N ys H3)
noncomputable def tComp (wi:TI) (own:List Str) (fr:List (Str × Nat)) (g:TG) (tc:TT) (te:TE):TE:=fun σ H Q=>wi σ H fun J H1=>∀ D,H1 D=none→CompW J (blkSt own fr σ) g tc te Q H1 D
theorem comp_run {elt tg iter:Expr} {ifs:List Expr} {scope:Scope} {pos:Pos} {own:List Str} {fr:List (Str × Nat)} {g:TG} {tc:TT} {te:TE} (hc:X.calm=true) (S:BlkScope X scope own fr)
    (hg:∀ C ex s H,PG (blkCx X scope own fr C ex s H) tg g) (ht:∀ C ex s H,PTs (blkCx X scope own fr C ex s H) ifs tc) (he:∀ C ex s H,PE (blkCx X scope own fr C ex s H) elt te)
    {pins:List (Addr × Obj)} {σ:St} {H:Hp} {s:Shared} {it:Addr} {fp:List Addr} {tn:Nat→Heap→Prop} {J:It} {E:Value→Shared→Prop}
    (I:Inv X pins σ H s) (T:Turn X.prog X.w X.K tg J fp it tn) (st:tn 0 s.heap) (hf:∀ b∈fp,FpOk X pins H b) {Q:VK}
    (h:∀ D,H D=none→CompW J (blkSt own fr σ) g tc te Q H D)
    {RR:Value→Addr→Result→Shared→Prop}
    (hR:∀ D C H' s',Inv X pins σ H' s'→(∃ m,s'.heap.Ns C m)→FpOk X pins H' C→Q (.ref D) H'→RR (.ref D) C (.ok .next) s'):
    wpAny (model X.prog X.w) X.A (newList []) (fun acc s₃=>wpAny (model X.prog X.w) X.A (newFunctionEnv scope X.env.globals (closOf X.env.cells scope.names []) [] X.env.qual none .none (some X.env)) (fun cenv s₄=>
      codeAny (model X.prog X.w) X.A (.compStart (.ListComp elt [⟨tg,iter,ifs,0⟩] scope pos) 0 (.ref it) acc { cenv with scope:=relabel scope X.env }) (RR acc cenv.locals) s₄) E s₃) E s:=by
  have hDn:H s.heap.objs.size=none:=I.fresh
  obtain ⟨W,⟨m0,w0⟩,turn⟩:=h s.heap.objs.size hDn
  have I3:Inv X pins σ (upd H s.heap.objs.size (.lst [])) { s with heap:=s.heap.push { cls:= .type "list",data:= .seq ([]:List Value).toArray },toks:=s.toks }:=I.lnew .nil (Nat.zero_le _)
  refine wpAny_newObj_type ?_
  generalize hs3:({ s with heap:=s.heap.push { cls:= .type "list",data:= .seq ([]:List Value).toArray } }:Shared)=s3 at I3 ⊢
  have I3:Inv X pins σ (upd H s.heap.objs.size (.lst [])) s3:=I3
  have old3:∀ b o,s.heap.get? b=some o→s3.heap.get? b=some o:=fun b o e=>by rw [← hs3];exact Heap.get?_push_of_some _ e
  have hobj:∀ b∈fp,∃ o,s.heap.get? b=some o∧∀ v,o.data≠ .cell v:=T.obj 0 _ st
  have hne:∀ b∈fp,b≠s.heap.objs.size:=fun b hb=>by obtain ⟨o,e,_⟩:=hobj b hb;exact Nat.ne_of_lt (Heap.lt_size e)
  have hf3:∀ b∈fp,FpOk X pins (upd H s.heap.objs.size (.lst [])) b:=fun b hb=>⟨by rw [upd_ne (hne b hb)];exact (hf b hb).1,(hf b hb).2⟩
  have hlt3:∀ b∈fp,b<s3.heap.objs.size:=fun b hb=>by obtain ⟨o,e,_⟩:=hobj b hb;exact Heap.lt_size (old3 b o e)
  refine wpAny_newFunctionEnv S.nocell (by intro y hy;simp at hy) (fun h₁ hns hsb=> ?_) S.kind
  have keep:∀ b o,s3.heap.get? b=some o→h₁.get? b=some o:=fun b o e=>hsb.extBut b o (Nat.ne_of_lt (Heap.lt_size e)) (Heap.get?_push_of_some _ e)
  have J0:=I3.block (t':=s3.toks+([]:List (Str × Value)).length) S hf3 hlt3 hns keep
  have st3:tn 0 h₁:=T.keep 0 _ _ st fun b hb o e=>keep b o (old3 b o e)
  have loop:codeAny (model X.prog X.w) X.A (.compLoop (.ListComp elt [⟨tg,iter,ifs,0⟩] scope pos) 0 (.ref it) (.ref s.heap.objs.size) (compEnvC scope (closOf X.env.cells scope.names []) s3.heap.objs.size X.env))
      (RR (.ref s.heap.objs.size) s3.heap.objs.size) { s3 with heap:=h₁,toks:=s3.toks+([]:List (Str × Value)).length }:=by
    have stat:∀ {H':Hp},(∀ b∈fp,H' b=none)→∀ b∈fp,FpOk (blkCx X scope own fr s3.heap.objs.size fp s3 (upd H s.heap.objs.size (.lst []))) [] H' b:=fun {H'} hn b hb=>
      ⟨hn b hb,Nat.ne_of_lt (hlt3 b hb),J0.ok.exfs b hb, .inl hb,(J0.ok.exf b hb).2,fun p hp=>absurd (show p∈([]:List (Addr × Obj)) from hp) (by simp)⟩
    refine compLoop_go (fun n s'=>∃ i ys H',Inv (blkCx X scope own fr s3.heap.objs.size fp s3 (upd H s.heap.objs.size (.lst []))) [] (blkSt own fr σ) H' s'∧tn i s'.heap∧(∀ b∈fp,H' b=none)∧W i n ys H') ?_ m0
      ⟨0,[],_,J0,st3,fun b hb=>(hf3 b hb).1,w0⟩
    rintro n s4 ⟨i,ys,H4,I4,st4,fr4,w4⟩
    rcases turn i n ys H4 w4 with ⟨stop,q⟩ | ⟨go,N,hN,step⟩
    · refine thn (T.done (blkCx X scope own fr s3.heap.objs.size fp s3 (upd H s.heap.objs.size (.lst []))) rfl rfl rfl hc i [] s4 _ H4 (fun _ _=>False) I4 (stat fr4) st4 stop) fun r s5 ⟨hr,I5⟩=> ?_
      subst hr
      obtain ⟨m,hn,_⟩:=id I5.loc
      exact hR _ _ H4 s5 (I3.call' I5.os I5.base I5.hok I5.bare fun b hb=>⟨(hf3 b hb).2.2.2.1,(hf3 b hb).2.1,(hf3 b hb).2.2.2.2.1,(hf3 b hb).2.2.2.2.2⟩) ⟨m,hn⟩ (I3.fpOk (Nat.le_refl _) I5.free) q
    · refine thn (T.item (blkCx X scope own fr s3.heap.objs.size fp s3 (upd H s.heap.objs.size (.lst []))) rfl rfl rfl hc i [] s4 _ H4 (fun _ _=>False) I4 (stat fr4) st4 go) fun r s5 ⟨u,hr,h5⟩=> ?_
      subst hr
      refine thn h5 fun _ s6 ⟨x,H6,I6,r6,y6,st6,fr6⟩=> ?_
      have I6':=I6.pinned (stat fr6) (T.obj _ _ st6)
      refine thn (hg _ _ _ _ _ s6 _ H6 x u _ I6' r6 (step x H6 y6)) fun _ s7 ⟨σ7,H7,I7,kp,q7⟩=> ?_
      refine thn (ht _ _ _ _ _ s7 σ7 H7 _ I7 q7) fun b s8 ⟨H8,I8,q8⟩=> ?_
      have again:∀ {s9:Shared} {H9:Hp} {ys':List V},Inv (blkCx X scope own fr s3.heap.objs.size fp s3 (upd H s.heap.objs.size (.lst []))) ([]++pinsAt fp s6.heap) σ7 H9 s9→N ys' H9→
          ∃ m,m<n∧∃ i ys H',Inv (blkCx X scope own fr s3.heap.objs.size fp s3 (upd H s.heap.objs.size (.lst []))) [] (blkSt own fr σ) H' s9∧tn i s9.heap∧(∀ b∈fp,H' b=none)∧W i m ys H':=fun {s9 H9 ys'} I9 n9=>by
        obtain ⟨m',hm,w9⟩:=hN ys' H9 n9
        refine ⟨m',hm,i+1,ys',H9,I9.unpinned.weak kp.1.symm kp.2,T.keep _ _ _ st6 fun b hb o e=>(I9.pin (b,o) (List.mem_append_right _ (List.mem_append_right _ (mem_pinsAt hb e)))).1,fun b hb=> ?_,w9⟩
        obtain ⟨o,e,d⟩:=T.obj _ _ st6 b hb
        exact (I9.pin (b,o) (List.mem_append_right _ (List.mem_append_right _ (mem_pinsAt hb e)))).2.1
      cases b with
      | false=>
        rw [if_neg Bool.false_ne_true] at q8 ⊢
        exact again I8 q8
      | true=>
        rw [if_pos rfl] at q8 ⊢
        refine thn (he _ _ _ _ _ s8 σ7 H8 _ I8 q8) fun xv s9 ⟨y,H9,I9,r9,hD,hl,n9⟩=> ?_
        refine thn (mt_append _ s9 σ7 H9 (.ref s.heap.objs.size) [y] (.ref s.heap.objs.size) [xv] (fun _ H'=>H'=upd H9 s.heap.objs.size (.lst (ys++[y]))) I9 rfl (.cons r9 .nil) ⟨_,ys,y,rfl,rfl,hD,hl,rfl⟩) fun _ s10 ⟨_,H10,I10,_,q10⟩=> ?_
        subst q10
        exact again I10 n9
  exact codeAny_compStart_list loop (T.self _ 0 _ _ _ st3 loop)
theorem pe_comp {elt tg iter:Expr} {ifs:List Expr} {scope:Scope} {pos:Pos} {own:List Str} {fr:List (Str × Nat)} {wi:TI} {g:TG} {tc:TT} {te:TE} (hc:X.calm=true) (S:BlkScope X scope own fr) (hi:PI X tg iter wi)
    (hg:∀ C ex s H,PG (blkCx X scope own fr C ex s H) tg g) (ht:∀ C ex s H,PTs (blkCx X scope own fr C ex s H) ifs tc) (he:∀ C ex s H,PE (blkCx X scope own fr C ex s H) elt te)
    (hs:∀ x,foldedSetIterable iter X.env x=pure x:=by intro _;rfl):PE X (.ListComp elt [⟨tg,iter,ifs,0⟩] scope pos) (tComp wi own fr g tc te):=by
  intro pins s σ H Q I h
  rw [eval_ListComp]
  refine wpAny_comprehension_free (use:=none) rfl hs (closureFor_eq (S.cells I.ok)) S.kind S.loc (thn (hi pins s σ H _ I h) fun xv s₁ h₁=>thn h₁ fun itv s₂ h₂=> ?_)
  obtain ⟨it,fp,tn,J,H2,rfl,I2,T,st2,f2,h2⟩:=h₂
  refine comp_run (RR:=fun acc C=>compPost (model X.prog X.w) X.A X.xe none (EP X pins σ Q) acc C) hc S hg ht he I2 T st2 f2 h2 ?_
  rintro D C H' s' I' ⟨m,hn⟩ f q
  exact ⟨m,hn,fun h' sb=>⟨.ref D,H',I'.turned (t':=s'.toks) (it:=C) (fun b o hb e=>(sb.2 b hb).trans e) f.1 f.2.1 f.2.2.2.1 f.2.2.2.2.1 f.2.2.2.2.2,rfl,q⟩⟩
theorem ps_comp {i:Nat} {x:Str} {px spos:Pos} {elt tg iter:Expr} {ifs:List Expr} {scope:Scope} {pos:Pos} {own:List Str} {fr:List (Str × Nat)} {wi:TI} {g:TG} {tc:TT} {te:TE} (hN:X.N.Nodup) (hix:X.N[i]?=some x) (hx:Loc X.env.scope x)
    (hc:X.calm=true) (S:BlkScope X scope own fr) (hi:PI X tg iter wi)
    (hg:∀ C ex s H,PG (blkCx X scope own fr C ex s H) tg g) (ht:∀ C ex s H,PTs (blkCx X scope own fr C ex s H) ifs tc) (he:∀ C ex s H,PE (blkCx X scope own fr C ex s H) elt te)
    (hsw:swapsWith (.ListComp elt [⟨tg,iter,ifs,0⟩] scope pos) (some (.Name x px)) spos.line X.env=pure true:=by rfl)
    (hf:X.fn x=true∨X.env.scope.names.lookup x=some .local:=by first | exact .inl rfl | exact .inr rfl | assumption)
    (hs:∀ x,foldedSetIterable iter X.env x=pure x:=by intro _;rfl):PS X (.Assign [.Name x px] (.ListComp elt [⟨tg,iter,ifs,0⟩] scope pos) spos) (tAsg (tComp wi own fr g tc te) (gName i)):=by
  intro pins s σ H D I h
  rw [exec_Assign_Name_used _ _ _ _ hsw]
  refine wpAny_bind (wpAny_standAt (wpAny_bind ?_))
  show wpAny _ X.A (do let _ ← comprehension (.ListComp elt [⟨tg,iter,ifs,0⟩] scope pos) scope X.env _ (newList []) false (eval iter X.env) (some (assign (.Name x px) X.env))) _ _ s
  refine wpAny_bind (wpAny_mono (wpAny_comprehension_free (use:=some (assign (.Name x px) X.env)) (Q:=fun _ s'=>SP X pins D .next s') rfl hs (closureFor_eq (S.cells I.ok)) S.kind S.loc
    (thn (hi pins s σ H _ I h) fun xv s₁ h₁=>thn h₁ fun itv s₂ h₂=> ?_)) (fun _ s' hq=>wpAny_pure (wpAny_pure hq)) fun _ _ e=>e)
  obtain ⟨it,fp,tn,J,H2,rfl,I2,T,st2,f2,h2⟩:=h₂
  refine comp_run (Q:=fun x H1=>gName i x σ H1 D.nx) (RR:=fun acc C=>compPost (model X.prog X.w) X.A X.xe (some (assign (.Name x px) X.env)) (fun _ s'=>SP X pins D .next s') acc C) hc S hg ht he I2 T st2 f2 h2 ?_
  rintro Dl C H' s' I' ⟨m,hn⟩ f q
  obtain ⟨o,es,ep,ho,hd,r⟩:=hn
  have pinC:∀ v,o.data≠ .cell v:=fun v z=>by rw [hd] at z;cases z
  have I'':Inv X (pins++[(C,o)]) σ H' s':=I'.pins_of fun p hp=>(List.mem_append.mp hp).elim (fun z=>I'.pin p (List.mem_append_right _ z)) fun z=>by
    have e:p=(C,o):=by simpa using z
    subst e
    exact ⟨ho,f.1,f.2.1,f.2.2.1,pinC⟩
  show wpAny _ X.A (assign (.Name x px) X.env (.ref Dl)) _ _ s'
  refine wpAny_assign_Name (store_ok I'' hN hix hx (v:= .ref Dl) rfl (fun s2 I2=> ?_) hf)
  have pc:=(I2.pin (C,o) (List.mem_append_right _ (List.mem_append_right _ (by simp)))).1
  refine ⟨m,⟨o,es,ep,pc,hd,r⟩,fun h' sb=>⟨_,H',?_,q⟩⟩
  exact (I2.unpinned (pl:=[(C,o)])).turned (t':=s2.toks) (it:=C) (fun b o hb e=>(sb.2 b hb).trans e) f.1 f.2.1 f.2.2.2.1 f.2.2.2.2.1 f.2.2.2.2.2
end
section
variable {X:Cx} {tg:Expr}
end
end L2
namespace L2
open PySem PySem.Spec PyProof.Rows
section
variable {X:Cx}
theorem fst_of_ints:∀ {ns:List Int} {l:List (Int × Tok)},Vals (ns.map V.int) (l.map fun p=>Value.int p.1 p.2)→l.map (·.1)=ns
  | [],[],_=>rfl
  | n::ns,p::l,r=>by
    cases r with
    | cons r1 r2=>
      obtain ⟨t,e⟩:=r1
      injection e with e1 e2
      rw [List.map_cons,fst_of_ints r2,e1]
  | [],_::_,r=>by cases r
  | _::_,[],r=>by cases r
theorem call_sum (hc:X.calm=true):CallR X (.builtin "sum") (fun xs H Q=>∃ (p:Addr) (ns:List Int),xs=[.ref p]∧SqL X.K H p (ns.map V.int)∧Q (.int ns.sum) H):=by
  intro pins s σ H xs us Q I r h
  obtain ⟨p,ns,rfl,hq,q⟩:=h
  obtain ⟨u,rfl,rx⟩:=vals1 r
  cases rx
  obtain ⟨its,rv,pl,_⟩:=I.list hq
  obtain ⟨ps,e⟩:=(IntsAre.allInts (intsAre_of rv)).items
  have e':its=ps.toList.map fun p=>Value.int p.1 p.2:=by
    have:=congrArg Array.toList e
    simpa [intItems] using this
  have hl:=pl.isList
  rw [e] at hl
  refine sum_intListG (I.ok.hd hc) hl fun h' tk t' hk=> ?_
  have es:preSum (numAt ps) ps.size=ns.sum:=by
    rw [preSum_eq,List.take_of_length_le (by simp),fst_of_ints (ns:=ns) (l:=ps.toList) (by rw [← e'];exact rv)]
  rw [es]
  exact ⟨.int ns.sum,H,I.kept hk,⟨t',rfl⟩,q⟩
theorem all_range (bs:List Bool):(List.range bs.length).all (fun i=>bs.getD i true)=bs.all id:=by
  rw [Bool.eq_iff_iff,List.all_eq_true,List.all_eq_true]
  constructor
  · intro h b hb
    obtain ⟨i,hi,rfl⟩:=List.getElem_of_mem hb
    have:=h i (by simpa using hi)
    rw [List.getD_eq_getElem?_getD,List.getElem?_eq_getElem hi] at this
    exact this
  · intro h i hi
    have hi:i<bs.length:=by simpa using hi
    rw [List.getD_eq_getElem?_getD,List.getElem?_eq_getElem hi]
    exact h _ (List.getElem_mem hi)
theorem call_all (hc:X.calm=true):CallR X (.builtin "all") (fun xs H Q=>∃ (p:Addr) (bs:List Bool),xs=[.ref p]∧SqL X.K H p (bs.map V.bl)∧Q (.bl (bs.all id)) H):=by
  intro pins s σ H xs us Q I r h
  obtain ⟨p,bs,rfl,hq,q⟩:=h
  obtain ⟨u,rfl,rx⟩:=vals1 r
  cases rx
  obtain ⟨its,rv,pl,_⟩:=I.list hq
  have hl:=rv.length
  rw [List.length_map] at hl
  obtain ⟨o,ho,_⟩:=id pl.isList
  have hne:p≠s.heap.objs.size:=Nat.ne_of_lt (Heap.lt_size ho)
  refine call_all_walk (wpAny_pyIter_list pl.isList ?_)
  refine ⟨s.heap.objs.size,_,_,_,_,_,fun i=>bs.getD i true,rfl,Walks.list (A:=X.A.in1) (I.ok.hd hc) _ p hne its.toArray,⟨⟨_,Heap.get?_push_size _ rfl,rfl,rfl⟩,pl.isList.at fun o e=>Heap.get?_push_of_some _ e⟩,?_,fun h' tk hk=> ?_⟩
  · intro i v s' Q' E' hv hQ'
    have hv:its[i]?=some v:=by simpa using hv
    have hi:i<bs.length:=by rw [hl];exact (List.getElem?_eq_some_iff.mp hv).1
    obtain ⟨u,hu,ru⟩:=rv.get (i:=i) (x:= .bl (bs.getD i true)) (by rw [List.getElem?_map,List.getD_eq_getElem?_getD,List.getElem?_eq_getElem hi];rfl)
    rw [hu] at hv
    cases hv
    cases ru
    exact wpAny_truthy_bool hQ'
  · have e:its.toArray.size=bs.length:=by rw [List.size_toArray];exact hl.symm
    rw [e,all_range]
    exact ⟨.bl _,H,I.kept fun b o e=>hk b o (fun z=>by simp at z;exact absurd (Heap.lt_size e) (by rw [z];exact Nat.lt_irrefl _)) (Heap.get?_push_of_some _ e),rfl,q⟩
theorem call_isinst:CallR X (.builtin "isinstance") (fun xs H Q=>∃ x n t b,xs=[x, .ty n]∧TyOf X.K H x t∧PySem.W.kitOne X.K t (.type n)=some b∧Q (.bl b) H):=by
  intro pins s σ H xs us Q I r h
  obtain ⟨x,n,t,b,rfl,ty,e,q⟩:=h
  obtain ⟨u,c,rfl,rx,rc⟩:=vals2 r
  cases rc
  exact isinst_ok I rx ty e fun tk=>⟨.bl b,H,I.tok tk,rfl,q⟩
noncomputable def rCatS (K:PySem.W.Frag):R2:=fun x y H Q=>∃ l b xs zs,x= .ref l∧y= .ref b∧SqL K H l xs∧SqL K H b zs∧xs.length+zs.length≤sizeLine∧∀ p,H p=none→Q (.ref p) (upd H p (.lst (xs++zs)))
theorem op_catS:OpR X (binaryOp .Add) (rCatS X.K):=by
  intro pins s σ H x y v u Q I rx ry h
  obtain ⟨l,b,xs,zs,rfl,rfl,hH,hB,hz,q⟩:=h
  cases rx
  cases ry
  obtain ⟨its,r,pl,_⟩:=I.list hH
  obtain ⟨its2,r2,pl2,_⟩:=I.list hB
  have h1:=r.length
  have h2:=r2.length
  obtain ⟨⟨cls,dd,data,sl⟩,n,ho,hc,hdd,hd⟩:=pl
  obtain ⟨⟨cls2,dd2,data2,sl2⟩,n2,ho2,hc2,hdd2,hd2⟩:=pl2
  simp only at hc hdd hd hc2 hdd2 hd2
  subst hc hdd hd hc2 hdd2 hd2
  refine concat_meets ⟨_,ho,rfl⟩ ⟨_,ho2,rfl⟩ noFill_list_add seq_list_add PySem.F.slot_list_add PySem.F.entry_list_add (PySem.F.args_list_add_2 _ _) (list_addW l b its.toArray its2.toArray n n2 none none sl sl2 (by rw [List.size_toArray,List.size_toArray];omega)) ⟨ho,ho2,?_⟩
  have e:its.toArray++its2.toArray=(its++its2).toArray:=by simp
  rw [e]
  exact ⟨.ref _,_,I.lnew (t':=s.toks) (r.append r2) (by rw [List.length_append];omega),rfl,q _ I.fresh⟩
noncomputable def eqVs (xs ys:List V):Bool:=xs.length == ys.length&&(List.range xs.length).all fun i=>eqV (xs.getD i .non) (ys.getD i .non)
theorem flat_getD {xs:List V} (h:xs.all flatV=true) {i:Nat} (hi:i<xs.length):flatV (xs.getD i .non)=true:=by
  rw [List.getD_eq_getElem?_getD,List.getElem?_eq_getElem hi]
  exact (List.all_eq_true.mp h) _ (List.getElem_mem hi)
noncomputable def rEqL (K:PySem.W.Frag) (neg:Bool):R2:=fun x y H Q=>∃ p q xs ys,x= .ref p∧y= .ref q∧SqL K H p xs∧SqL K H q ys∧xs.all flatV=true∧ys.all flatV=true∧Q (.bl (if neg then !eqVs xs ys else eqVs xs ys)) H
theorem eqAt_items {A:Around} {s:Shared} {xs ys:List V} {its its2:List Value} (r:Vals xs its) (r2:Vals ys its2) (fx:xs.all flatV=true) (fy:ys.all flatV=true):
    ∀ j (h1:j<its.toArray.size) (h2:j<its2.toArray.size),SeqAt.EqAt A s its.toArray[j] its2.toArray[j] (eqV (xs.getD j .non) (ys.getD j .non)):=fun j h1 h2=>by
  have l1:=r.length
  have l2:=r2.length
  have h1':j<its.length:=by simpa using h1
  have h2':j<its2.length:=by simpa using h2
  have g1:xs[j]?=some (xs.getD j .non):=by rw [List.getD_eq_getElem?_getD,List.getElem?_eq_getElem (by omega)];rfl
  have g2:ys[j]?=some (ys.getD j .non):=by rw [List.getD_eq_getElem?_getD,List.getElem?_eq_getElem (by omega)];rfl
  obtain ⟨u,e1,ru⟩:=r.get g1
  obtain ⟨u2,e2,ru2⟩:=r2.get g2
  have q1:its.toArray[j]=u:=by rw [List.getElem?_eq_getElem h1'] at e1;simpa using Option.some.inj e1
  have q2:its2.toArray[j]=u2:=by rw [List.getElem?_eq_getElem h2'] at e2;simpa using Option.some.inj e2
  rw [q1,q2]
  exact eqAt_V ru ru2 (flat_getD fx (by omega)) (flat_getD fy (by omega))
theorem op_eqL (hu:X.A.units<cLine):OpR X (compareOp .Eq) (rEqL X.K false):=by
  intro pins s σ H x y v u Q I rx ry h
  obtain ⟨p,q,xs,ys,rfl,rfl,h1,h2,fx,fy,hq⟩:=h
  cases rx
  cases ry
  obtain ⟨its,r,pl,_⟩:=I.list h1
  obtain ⟨its2,r2,pl2,_⟩:=I.list h2
  have l1:=r.length
  have l2:=r2.length
  by_cases hl:xs.length=ys.length
  · refine SeqAt.eq_listAt pl.isList pl2.isList (by simp;omega) hu (eqAt_items r r2 fx fy) ⟨.bl _,H,I,rfl,?_⟩
    have e:eqVs xs ys=(List.range its.toArray.size).all fun i=>eqV (xs.getD i .non) (ys.getD i .non):=by
      unfold eqVs
      rw [hl,beq_self_eq_true,Bool.true_and,List.size_toArray, ← l1,hl]
    rw [← e]
    exact hq
  · refine SeqAt.eq_list_lengthsAt pl.isList pl2.isList (by simp;omega) hu ⟨.bl _,H,I,rfl,?_⟩
    have e:eqVs xs ys=false:=by unfold eqVs;rw [beq_eq_false_iff_ne.mpr hl,Bool.false_and]
    rw [← e]
    exact hq
theorem eqVs_of {α:Type} [DecidableEq α] (f:α→V) (hf:∀ a b,eqV (f a) (f b)=decide (a=b)) (as bs:List α):eqVs (as.map f) (bs.map f)=decide (as=bs):=by
  unfold eqVs
  rw [Bool.eq_iff_iff,Bool.and_eq_true,List.all_eq_true,decide_eq_true_iff,beq_iff_eq,List.length_map,List.length_map]
  constructor
  · rintro ⟨h1,h2⟩
    refine List.ext_getElem h1 fun i g1 g2=> ?_
    have:=h2 i (by simpa using g1)
    rw [List.getD_eq_getElem?_getD,List.getD_eq_getElem?_getD,List.getElem?_map,List.getElem?_map,List.getElem?_eq_getElem g1,List.getElem?_eq_getElem g2] at this
    have:=(hf _ _).symm.trans this
    exact of_decide_eq_true this
  · rintro rfl
    refine ⟨rfl,fun i hi=> ?_⟩
    have hi:i<as.length:=by simpa using hi
    rw [List.getD_eq_getElem?_getD,List.getElem?_map,List.getElem?_eq_getElem hi]
    show eqV (f as[i]) (f as[i])=true
    rw [hf]
    exact decide_eq_true rfl
theorem eqVs_int (as bs:List Int):eqVs (as.map V.int) (bs.map V.int)=decide (as=bs):=eqVs_of V.int (fun a b=>by show (a == b)=_;rw [Bool.eq_iff_iff,beq_iff_eq,decide_eq_true_iff]) as bs
theorem flat_int (as:List Int):(as.map V.int).all flatV=true:=by simp [flatV]
end
end L2
namespace L2
open PySem PySem.Spec PyProof.Rows
noncomputable def CallF (P:Program) (w:World) (K:PySem.W.Frag) (mg:Str→Option Value) (base:Heap) (x:Str) (k:Nat) (ps:List Str) (sp:Sp):Prop:=
  ∃ f fd,mg x=some (.ref f)∧PySem.W.keepIn K (.ref f)=true∧FnOk P w K mg base CX0 k f fd ps sp∧Binds K fd ps []
section
variable {X:Cx} {x:Str} {k:Nat} {ps:List Str} {sp:Sp} {e:Expr} {es:List Expr} {t:TA} {p pos:Pos}
theorem pe_callF (h:CallF X.prog X.w X.K X.mg X.base x k ps sp) (hr:Room k X.A) (ha:PA X (e::es) t) (hg:Gl X x:=by rfl) (hdb:(x == ("__debug__":Str))=false:=by decide)
    (he:starEach (e::es) X.env=(false,eval e X.env)::starEach es X.env:=by rfl) (hpl:(backTo pos (starEach es X.env)).any (·.1)=false:=by rfl):
    PE X (.Call (.Name x p) (e::es) [] pos) (tCall sp [] E0 t):=by
  obtain ⟨f,fd,hm,hk,F,hb⟩:=h
  exact pe_call F hr hg hm hk hb .nil pass0 ha hdb he hpl
end
structure DefAt (K:PySem.W.Frag) (mg:Str→Option Value) (x:Str) (st:Stmt) (ps:List Str) (f:Addr) (fd:FuncData):Prop where
  fn:Fun K x x st f fd
  at':mg x=some (.ref f)
  bi:Binds K fd ps []
theorem DefAt.call {P:Program} {w:World} {K:PySem.W.Frag} {mg:Str→Option Value} {base:Heap} {x:Str} {st:Stmt} {ps:List Str} {f:Addr} {fd:FuncData} {k:Nat} {sp:Sp} (d:DefAt K mg x st ps f fd)
    (F:FnOk P w K mg base CX0 k f fd ps sp):CallF P w K mg base x k ps sp:=⟨f,fd,d.at',d.fn.kp,F,d.bi⟩
noncomputable def isIntV:V→Bool | .int _=>true | _=>false
noncomputable def isBlV:V→Bool | .bl _=>true | _=>false
noncomputable def Ty (K:PySem.W.Frag) (H:Hp) (x:V):Prop:=∃ n,TyOf K H x (.type n)
noncomputable def kitB (n T:String):Option Bool:=if (Value.type n == Value.type T)=true then some true else if PySem.W.kitMeta T=true then (fastBuiltinMro n).map (·.contains (.type T)) else none
section
variable {K:PySem.W.Frag} {H:Hp} {x:V} {n:String}
theorem kb {n T:String} {b:Bool} (h:kitB n T=some b):PySem.W.kitOne K (.type n) (.type T)=some b:=h
theorem kit_int (h:TyOf K H x (.type n)):PySem.W.kitOne K (.type n) (.type "int")=some (isIntV x||isBlV x):=by
  cases h <;> first
    | exact (show PySem.W.kitOne K _ _=some true from kb (by decide +kernel))
    | exact (show PySem.W.kitOne K _ _=some false from kb (by decide +kernel))
theorem kit_bool (h:TyOf K H x (.type n)):PySem.W.kitOne K (.type n) (.type "bool")=some (isBlV x):=by
  cases h <;> first
    | exact (show PySem.W.kitOne K _ _=some true from kb (by decide +kernel))
    | exact (show PySem.W.kitOne K _ _=some false from kb (by decide +kernel))
end
section
variable {X:Cx}
noncomputable def Own (mg:Str→Option Value) (names:List Str):Prop:=∀ x∈names,mg x=none
theorem boot_all':bootBuiltins "all"=some (.builtin "all"):=by decide +kernel
theorem pe_ty {x:Str} {T:String} {pos:Pos} (hg:Gl X x) (hm:X.mg x=none) (hv:bootBuiltins x=some (.type T)) (hn:x≠"__name__":=by decide) (hd:(x == ("__debug__":Str))=false:=by decide):PE X (.Name x pos) (tC (.ty T)):=
  pe_bltn hg hm hv (show RelV (.ty T) (.type T) from rfl) hn hd
end
end L2
namespace L2
open PySem PySem.Spec PyProof.Rows
noncomputable def frOf (N:List Str) (scope:Scope):List (Str × Nat):=scope.names.filterMap fun y=>if y.2= .free then (N.findIdx? fun n=>decide (n=y.1)).map fun i=>(y.1,i) else none
noncomputable def blkOk (sc:Scope) (N:List Str) (scope:Scope) (own:List Str) (fr:List (Str × Nat)):Bool:=
  decide (scope.kind= .function)&&
  (scope.names.all fun y=>decide (y.2≠ .cell)&&(decide (y.2≠ .local)||decide (scope.names.lookup y.1=some .local))&&
    (decide (y.2≠ .free)||((decide (sc.names.lookup y.1=some .cell)||decide (sc.names.lookup y.1=some .free))&&decide (scope.names.lookup y.1=some .free))))&&
  (fr.all fun p=>decide (N[p.2]?=some p.1)&&decide ((p.1,NameKind.free)∈scope.names))&&
  (own.all fun x=>decide (scope.names.lookup x=some .local))&&decide ((own++fr.map (·.1)).Nodup)
section
variable {X:Cx} {scope:Scope} {own:List Str} {fr:List (Str × Nat)}
theorem BlkScope.of (h:blkOk X.env.scope X.N scope own fr=true):BlkScope X scope own fr:=by
  unfold blkOk at h
  simp only [Bool.and_eq_true,List.all_eq_true,decide_eq_true_iff,Bool.or_eq_true] at h
  obtain ⟨⟨⟨⟨h1,h2⟩,h3⟩,h4⟩,h5⟩:=h
  exact ⟨h1,fun y hy=>(h2 y hy).1.1,fun y hy e=>(h2 y hy).1.2.resolve_left (fun z=>z e),fun y hy e=>((h2 y hy).2.resolve_left (fun z=>z e)).1,fun p hp=>h3 p hp,fun x hx=>((h2 _ hx).2.resolve_left (fun z=>z rfl)).2⟩
theorem blkOk_own (h:blkOk X.env.scope X.N scope own fr=true):(∀ x∈own,scope.names.lookup x=some .local)∧(own++fr.map (·.1)).Nodup:=by
  unfold blkOk at h
  simp only [Bool.and_eq_true,List.all_eq_true,decide_eq_true_iff,Bool.or_eq_true] at h
  exact ⟨h.1.2,h.2⟩
theorem pg_own {i:Nat} {x:Str} {px:Pos} (h:blkOk X.env.scope X.N scope own fr=true) (hi:own[i]?=some x) (C:Addr) (ex:List Addr) (s:Shared) (H:Hp):PG (blkCx X scope own fr C ex s H) (.Name x px) (gName i):=by
  obtain ⟨h1,h2⟩:=blkOk_own h
  have hl:(relabel scope X.env).names.lookup x=some .local:=lookup_relabel_local (h1 x (List.mem_of_getElem? hi))
  have hlt:=(List.getElem?_eq_some_iff.mp hi).1
  refine pg_name h2 ?_ (.inl hl) (.inr hl)
  show (own++fr.map (·.1))[i]?=some x
  rw [List.getElem?_append_left hlt]
  exact hi
theorem pe_comp1 {elt iter:Expr} {x:Str} {px:Pos} {ifs:List Expr} {pos:Pos} {wi:TI} {tc:TT} {te:TE} (hi:PI X (.Name x px) iter wi)
    (ht:∀ C ex s H,PTs (blkCx X scope [x] (frOf X.N scope) C ex s H) ifs tc) (he:∀ C ex s H,PE (blkCx X scope [x] (frOf X.N scope) C ex s H) elt te)
    (hb:blkOk X.env.scope X.N scope [x] (frOf X.N scope)=true:=by with_unfolding_all rfl) (hc:X.calm=true:=by rfl)
    (hs:∀ x,foldedSetIterable iter X.env x=pure x:=by intro _;rfl):PE X (.ListComp elt [⟨.Name x px,iter,ifs,0⟩] scope pos) (tComp wi [x] (frOf X.N scope) (gName 0) tc te):=
  pe_comp hc (.of hb) hi (fun C ex s H=>pg_own hb rfl C ex s H) ht he hs
theorem ps_comp1 {i:Nat} {y x:Str} {py px spos:Pos} {elt iter:Expr} {ifs:List Expr} {pos:Pos} {wi:TI} {tc:TT} {te:TE} (hN:X.N.Nodup) (hix:X.N[i]?=some y) (hx:Loc X.env.scope y) (hi:PI X (.Name x px) iter wi)
    (ht:∀ C ex s H,PTs (blkCx X scope [x] (frOf X.N scope) C ex s H) ifs tc) (he:∀ C ex s H,PE (blkCx X scope [x] (frOf X.N scope) C ex s H) elt te)
    (hb:blkOk X.env.scope X.N scope [x] (frOf X.N scope)=true:=by with_unfolding_all rfl) (hc:X.calm=true:=by rfl)
    (hsw:swapsWith (.ListComp elt [⟨.Name x px,iter,ifs,0⟩] scope pos) (some (.Name y py)) spos.line X.env=pure true:=by rfl)
    (hf:X.fn y=true∨X.env.scope.names.lookup y=some .local:=by first | exact .inl rfl | exact .inr rfl | assumption)
    (hs:∀ x,foldedSetIterable iter X.env x=pure x:=by intro _;rfl):
    PS X (.Assign [.Name y py] (.ListComp elt [⟨.Name x px,iter,ifs,0⟩] scope pos) spos) (tAsg (tComp wi [x] (frOf X.N scope) (gName 0) tc te) (gName i)):=
  ps_comp hN hix hx hc (.of hb) hi (fun C ex s H=>pg_own hb rfl C ex s H) ht he hsw hf hs
end
end L2
namespace L2
open PySem PySem.Spec PyProof.Rows
noncomputable def rLen (K:PySem.W.Frag):List V→Hp→VK→Prop:=fun xs H Q=>∃ x n,xs=[x]∧LenV K x H n∧Q (.int n) H
noncomputable def rSum (K:PySem.W.Frag):List V→Hp→VK→Prop:=fun xs H Q=>∃ (p:Addr) (ns:List Int),xs=[.ref p]∧SqL K H p (ns.map V.int)∧Q (.int ns.sum) H
noncomputable def rAll (K:PySem.W.Frag):List V→Hp→VK→Prop:=fun xs H Q=>∃ (p:Addr) (bs:List Bool),xs=[.ref p]∧SqL K H p (bs.map V.bl)∧Q (.bl (bs.all id)) H
noncomputable def rIsin (K:PySem.W.Frag):List V→Hp→VK→Prop:=fun xs H Q=>∃ x n t b,xs=[x, .ty n]∧TyOf K H x t∧PySem.W.kitOne K t (.type n)=some b∧Q (.bl b) H
noncomputable def rListOf (K:PySem.W.Frag):List V→Hp→VK→Prop:=fun xs H Q=>∃ p ys,xs=[.ref p]∧(SqL K H p ys∨SqT K H p ys)∧∀ l,H l=none→Q (.ref l) (upd H l (.lst ys))
noncomputable def rTupleOf (K:PySem.W.Frag):List V→Hp→VK→Prop:=fun xs H Q=>∃ p ys,xs=[.ref p]∧((SqL K H p ys∧∀ l,H l=none→Q (.ref l) (upd H l (.tup ys)))∨(SqT K H p ys∧Q (.ref p) H))
section
variable {X:Cx} {K:PySem.W.Frag}
theorem k_len (hK:X.K=K:=by rfl):CallR X (.builtin "len") (rLen K):=by subst hK;exact call_len
theorem k_sum (hK:X.K=K:=by rfl) (hc:X.calm=true:=by rfl):CallR X (.builtin "sum") (rSum K):=by subst hK;exact call_sum hc
theorem k_all (hK:X.K=K:=by rfl) (hc:X.calm=true:=by rfl):CallR X (.builtin "all") (rAll K):=by subst hK;exact call_all hc
theorem k_isin (hK:X.K=K:=by rfl):CallR X (.builtin "isinstance") (rIsin K):=by subst hK;exact call_isinst
theorem k_list (hK:X.K=K:=by rfl):CallR X (.type "list") (rListOf K):=by subst hK;exact call_list_of
theorem k_tuple (hK:X.K=K:=by rfl):CallR X (.type "tuple") (rTupleOf K):=by subst hK;exact call_tuple_of
theorem k_ixl (hK:X.K=K:=by rfl):IxR X (rIxL K):=by subst hK;exact ix_list
theorem k_ixt (hK:X.K=K:=by rfl):IxR X (rIxT K):=by subst hK;exact ix_tup
theorem k_in (hK:X.K=K:=by rfl):OpR X (compareOp .In) (rIn K false):=by subst hK;exact op_in_seq
theorem k_notin (hK:X.K=K:=by rfl):OpR X (compareOp .NotIn) (rIn K true):=by subst hK;exact op_notIn_seq
theorem k_cat (hK:X.K=K:=by rfl):OpR X (binaryOp .Add) (rCatS K):=by subst hK;exact op_catS
theorem k_eql (hu:X.A.units<cLine) (hK:X.K=K:=by rfl):OpR X (compareOp .Eq) (rEqL K false):=by subst hK;exact op_eqL hu
theorem k_sll (hK:X.K=K:=by rfl):SlR X (rSlL K):=by subst hK;exact sl_list
theorem k_pil {tg l:Expr} {tl:TE} (hl:PE X l tl) (hK:X.K=K:=by rfl):PI X tg l (iList K tl):=by subst hK;exact pi_list hl
theorem k_pit {tg l:Expr} {tl:TE} (hl:PE X l tl) (hK:X.K=K:=by rfl):PI X tg l (iTup K tl):=by subst hK;exact pi_tup hl
end
end L2
namespace L2
open PySem PySem.Spec PyProof.Rows
section
variable {X:Cx} {pins:List (Addr × Obj)} {σ:St} {H:Hp} {s:Shared} {h':Heap}
theorem Inv.turnedL {t':Nat} (ch:List Addr) (I:Inv X pins σ H s) (hf:∀ b∈ch,FpOk X pins H b) (k:∀ b o,b∉ch→s.heap.get? b=some o→h'.get? b=some o):Inv X pins σ H { s with heap:=h',toks:=t' }:=by
  have nit:∀ b u,H b=some u→b∉ch:=fun b u e z=>by rw [(hf b z).1] at e;cases e
  refine I.step (g':=s.gens) (d':=s.drawn) (ch:=ch) (fun b hb=> ?_) (fun b o _ _ hc e _=>k b o hc e) (fun b o _ _ hc e _=>⟨o.slots,k b o hc e⟩) (fun _ _ _ _ n=>n)
    (fun b o hc e=>⟨o,k b o hc e⟩) (fun _ _ e=>e) (fun _ _ _ e=>e) (fun b ps e=>⟨#[],by rw [e];simp⟩) (fun m hm=> ?_) (fun b u e=> ?_) I.bare
  · obtain ⟨f0,f1,f2,f3,f4,f5⟩:=hf b hb
    exact ⟨f3,f1,f4,f5⟩
  · obtain ⟨o,es,ep,ho,r⟩:=hm
    exact ⟨o,es,ep,k _ o (fun z=>(hf _ z).2.1 rfl) ho,r⟩
  · refine (I.hok b u e).stay (fun c v hc q=>k c v ?_ q) (fun _ q=>q) fun _ _ q=>q
    rcases hc with z | z
    · rw [z];exact nit b u e
    · exact nit c _ z
end
noncomputable def Ite (K:PySem.W.Frag) (a:Addr):It:=
  ⟨fun i H=>∃ xs x,SqL K H a xs∧xs[i]?=some x,fun i H v H'=>∃ p x,H p=none∧v= .ref p∧H'=upd H p (.tup [.int i,x])∧∀ xs,SqL K H a xs→xs[i]?=some x,fun i H=>∃ xs,SqL K H a xs∧xs.length≤i⟩
theorem fp_upd {X:Cx} {pins:List (Addr × Obj)} {H:Hp} {b p:Addr} {o:HO} (h:FpOk X pins H b) (n:b≠p):FpOk X pins (upd H p o) b:=⟨by rw [upd_ne n];exact h.1,h.2⟩
theorem turn_enum {P:Program} {w:World} {K:PySem.W.Frag} {elts:List Expr} {k:Nat} {pos:Pos} (a e it:Addr) (hne:e≠it):
    Turn P w K (.Tuple elts k pos) (Ite K a) [e,it] e (fun i h=>(∃ old,IsEnum h e it i old)∧h.IsListIter it a i) where
  mem:=by simp
  obj:=fun i h st b hb=>by
    obtain ⟨⟨old,he⟩,o,eo,c,d⟩:=st
    rcases List.mem_cons.mp hb with z | z
    · subst z
      exact ⟨_,he,fun v z=>by cases (show Data.fields _=Data.cell v from z)⟩
    · have z:b=it:=by simpa using z
      subst z
      exact ⟨o,eo,fun v z=>by rw [d] at z;cases z⟩
  keep:=fun i h h' st kp=>by
    obtain ⟨⟨old,he⟩,hi⟩:=st
    exact ⟨⟨old,kp e (by simp) _ he⟩,hi.at fun o z=>kp it (by simp) o z⟩
  item:=by
    intro X hP hw hK hc i pins s σ H E I hf st hg
    subst hP hw hK
    obtain ⟨xs,x,hq,hx⟩:=hg
    obtain ⟨its,rv,p,hz⟩:=I.list hq
    obtain ⟨u,hu,ru⟩:=rv.get hx
    obtain ⟨⟨old,he⟩,hi⟩:=st
    have hel:e<s.heap.objs.size:=Heap.lt_size he
    have hil:it<s.heap.objs.size:=by obtain ⟨_,z,_⟩:=hi;exact Heap.lt_size z
    refine wpAny_pyNext_enum_item he hi p.isList (x:=u) (by simpa using hu) hne fun h' ho hi' hT hsz hk=> ?_
    have I0:=I.laid (h':=s.heap.push { cls:= .type "tuple",data:= .seq #[.int i s.toks,u] }) (a:=s.heap.objs.size) (o:= .tup [.int i,x]) (t':=s.toks+1) (fun _ _ q=>Heap.get?_push_of_some _ q) (Nat.le_refl _)
      ⟨(by show 2≤sizeLine;decide),[.int i s.toks,u], .cons ⟨_,rfl⟩ (.cons ru .nil),⟨_,Heap.get?_push_size _ rfl,rfl,_,rfl⟩⟩
    have f0:∀ b∈[e,it],FpOk X pins (upd H s.heap.objs.size (.tup [.int i,x])) b:=fun b hb=>fp_upd (hf b hb) (by
      rcases List.mem_cons.mp hb with z | z
      · rw [z];exact Nat.ne_of_lt hel
      · rw [show b=it by simpa using z];exact Nat.ne_of_lt hil)
    have I1:=Inv.turnedL (t':=s.toks+1) (h':=h') [e,it] I0 f0 (fun b o hb z=>by
      have hb1:b≠e:=fun q=>hb (by simp [q])
      have hb2:b≠it:=fun q=>hb (by simp [q])
      rcases Heap.get?_push_cases (show (s.heap.push { cls:= .type "tuple",data:= .seq #[.int i s.toks,u] }).get? b=some o from z) with ⟨q1,q2⟩ | q
      · rw [q1,q2];exact hT
      · exact hk b o hb1 hb2 q)
    refine ⟨.ref s.heap.objs.size,rfl,wpAny_letOwnedTupleGo_enum (s:={ s with heap:=h',toks:=s.toks+1 }) ho fun h2 he2 sb=> ?_⟩
    refine ⟨.ref s.heap.objs.size,_,Inv.turnedL (t':=s.toks+1) (h':=h2) [e,it] I1 f0 (fun b o hb z=>(sb.2 b fun q=>hb (by simp [q])).trans z),rfl,⟨_,x,I.fresh,rfl,rfl,fun ys hy=>by rw [I.list_inj hy hq];exact hx⟩,⟨⟨u,by simpa using he2⟩,hi'.at fun o z=>(sb.2 it hne.symm).trans z⟩,fun b hb=>(f0 b hb).1⟩
  done:=by
    intro X hP hw hK hc i pins s σ H E I hf st hg
    subst hP hw hK
    obtain ⟨xs,hq,hx⟩:=hg
    obtain ⟨its,rv,p,hz⟩:=I.list hq
    obtain ⟨⟨old,he⟩,hi⟩:=st
    have hl:=rv.length
    exact wpAny_pyNext_enum_end (I.ok.hd hc) he hi p.isList (by simp;omega) fun h' eb=>⟨rfl,I.turnedL (t':=s.toks) [e,it] hf fun b o hb z=>eb b o (fun q=>hb (by simp [q])) z⟩
  self:=fun _ _ _ _ _ st h=>by
    obtain ⟨⟨old,he⟩,_⟩:=st
    exact wpAny_pyIter_enum he h
section
variable {X:Cx} {elts:List Expr} {k:Nat} {tpos:Pos} {K:PySem.W.Frag}
noncomputable def iEnum (K:PySem.W.Frag) (ta:TA):TI:=fun σ H R=>ta σ H fun vs H1=>∃ a,vs=[.ref a]∧(∃ xs,SqL K H1 a xs)∧R (Ite K a) H1
theorem boot_enum:bootBuiltins "enumerate"=some (.type "enumerate"):=by decide +kernel
theorem boot_zip:bootBuiltins "zip"=some (.type "zip"):=by decide +kernel
theorem pi_enum {l:Expr} {ta:TA} {p pos:Pos} (hg:Gl X "enumerate") (hm:X.mg "enumerate"=none) (ha:PA X [l] ta) (hK:X.K=K:=by rfl) (hs:starEach [l] X.env=[(false,eval l X.env)]:=by rfl):PI X (.Tuple elts k tpos) (.Call (.Name "enumerate" p) [l] [] pos) (iEnum K ta):=by
  subst hK
  intro pins s σ H R I h
  refine Call_ (ld_blt I hg hm boot_enum (PyProof.Rows.callWith_type1 (thn (ha pos pins s σ H _ I h) fun us s1 ⟨vs,H1,I1,r1,q1⟩=> ?_) hs rfl))
  obtain ⟨a,e,⟨xs,hq⟩,q⟩:=q1
  subst e
  cases r1 with
  | cons r rr=>
    cases rr
    cases r
    obtain ⟨its,rv,pl,hz⟩:=I1.list hq
    refine call_enumerate_list pl.isList fun h' he hi hsz hk=> ?_
    refine wpAny_pyIter_enum he ?_
    have I2:=I1.kept (t':=s1.toks) hk
    refine ⟨s1.heap.objs.size+1,[s1.heap.objs.size+1,s1.heap.objs.size],_,_,H1,rfl,I2,turn_enum a _ _ (Nat.succ_ne_self _),⟨⟨_,he⟩,hi⟩,fun b hb=> ?_,q⟩
    have hb':s1.heap.objs.size≤b:=by
      rcases List.mem_cons.mp hb with z | z
      · rw [z];exact Nat.le_succ _
      · have z:b=s1.heap.objs.size:=by simpa using z
        rw [z];exact Nat.le_refl _
    exact I1.fpOk hb' (I1.hok.fresh hb')
end
section
variable {X:Cx} {elts:List Expr} {k:Nat} {tpos:Pos} {K:PySem.W.Frag}
end
end L2
namespace L2
open PySem PySem.Spec PyProof.Rows
noncomputable def SrcIt (tp:Bool) (h:Heap) (it l:Addr) (i:Nat):Prop:=if tp=true then h.IsTupleIter it l i else h.IsListIter it l i
noncomputable def SrcSq (tp:Bool) (h:Heap) (l:Addr) (xs:Array Value):Prop:=if tp=true then h.IsTuple l xs else h.IsList l xs
theorem srcIt_at {tp:Bool} {h h':Heap} {it l:Addr} {i:Nat} (x:SrcIt tp h it l i) (k:∀ o,h.get? it=some o→h'.get? it=some o):SrcIt tp h' it l i:=by
  cases tp with
  | false=>obtain ⟨o,e,r⟩:=(show h.IsListIter it l i from x);exact (show h'.IsListIter it l i from ⟨o,k o e,r⟩)
  | true=>obtain ⟨o,e,r⟩:=(show h.IsTupleIter it l i from x);exact (show h'.IsTupleIter it l i from ⟨o,k o e,r⟩)
theorem srcSq_at {tp:Bool} {h h':Heap} {l:Addr} {xs:Array Value} (x:SrcSq tp h l xs) (k:∀ o,h.get? l=some o→h'.get? l=some o):SrcSq tp h' l xs:=by
  cases tp with
  | false=>obtain ⟨o,e,r⟩:=(show h.IsList l xs from x);exact (show h'.IsList l xs from ⟨o,k o e,r⟩)
  | true=>obtain ⟨o,e,r⟩:=(show h.IsTuple l xs from x);exact (show h'.IsTuple l xs from ⟨o,k o e,r⟩)
theorem srcIt_obj {tp:Bool} {h:Heap} {it l:Addr} {i:Nat} (x:SrcIt tp h it l i):∃ o,h.get? it=some o∧o.data= .fields #[.ref l, .int i 0]:=by
  cases tp with
  | false=>obtain ⟨o,e,_,d⟩:=(show h.IsListIter it l i from x);exact ⟨o,e,d⟩
  | true=>obtain ⟨o,e,_,d⟩:=(show h.IsTupleIter it l i from x);exact ⟨o,e,d⟩
theorem srcSq_obj {tp:Bool} {h:Heap} {l:Addr} {xs:Array Value} (x:SrcSq tp h l xs):∃ o n,h.get? l=some o∧o.data= .seq xs n:=by
  cases tp with
  | false=>obtain ⟨o,e,_,n,d⟩:=(show h.IsList l xs from x);exact ⟨o,n,e,d⟩
  | true=>obtain ⟨o,e,_,n,d⟩:=(show h.IsTuple l xs from x);exact ⟨o,n,e,d⟩
section
variable {prog:Program} {w:World} {A:Around} {E:Value→Shared→Prop} {s:Shared}
theorem src_item {tp:Bool} {it l:Addr} {i:Nat} {xs:Array Value} {x:Value} {Q:Value→Shared→Prop} (ht:SrcIt tp s.heap it l i) (hq:SrcSq tp s.heap l xs) (hx:xs[i]?=some x)
    (k:∀ h',SrcIt tp h' it l (i+1)→Heap.SameBut it s.heap h'→Q x { s with heap:=h' }):wpAny (model prog w) A (Builtin.SmallTypes.nextOf (.ref it)) Q E s:=by
  cases tp with
  | false=>exact wpAny_nextOf_list_item (show s.heap.IsListIter it l i from ht) (show s.heap.IsList l xs from hq) hx k
  | true=>
    have ht:s.heap.IsTupleIter it l i:=ht
    obtain ⟨ob,eb,cb,db⟩:=id ht
    obtain ⟨ol,el,_,nl,dl⟩:=(show s.heap.IsTuple l xs from hq)
    unfold Builtin.SmallTypes.nextOf
    refine wpAny_bind (wpAny_callSpecial?_slot (name:=Str.ofString "__next__") ht.typeIs F.slot_tuple_iterator_next (wpAny_call_entry F.slot_tuple_iterator_next ht.typeIs F.entry_tuple_iterator_next ?_ (F.args_tuple_iterator_next_1 _)))
    show wpAny _ _ (field (.ref it) 0 >>= _) _ _ s
    refine wpAny_bind (wpAny_field eb db (x:= .ref l) rfl ?_)
    show wpAny _ _ (if (Value.ref l == Value.none)=true then _ else _) _ _ s
    rw [if_neg (show ¬ ((Value.ref l == Value.none)=true) from Bool.false_ne_true)]
    show wpAny _ _ (field (.ref it) 1 >>= _) _ _ s
    refine wpAny_bind (wpAny_field eb db (x:= .int i 0) rfl ?_)
    show wpAny _ _ (seqItems? (.ref l) >>= _) _ _ s
    refine wpAny_bind (wpAny_seqItems el dl ?_)
    simp only [Int.toNat_natCast,hx]
    refine wpAny_bind (wpAny_setField eb db (by simp) (wpAny_pure ⟨x,rfl,wpAny_pure (k _ ?_ (Heap.SameBut.update ..))⟩))
    exact (show Heap.IsTupleIter _ it l (i+1) from ⟨_,Heap.get?_update_self _ eb (Obj.isFreed_of_fields (Obj.data_mapFields db _)),(Obj.cls_mapFields ..).trans cb,by rw [Obj.data_mapFields db];simp [rawInt]⟩)
theorem src_end {tp:Bool} {it l:Addr} {i:Nat} {xs:Array Value} {Q:Value→Shared→Prop} (hh:A.handled=none) (ht:SrcIt tp s.heap it l i) (hq:SrcSq tp s.heap l xs) (hx:xs[i]?=none)
    (k:∀ h' e,Heap.ExtBut it s.heap h'→(∃ o,h'.get? e=some o∧o.cls= .type "StopIteration")→E (.ref e) { s with heap:=h' }):wpAny (model prog w) A (Builtin.SmallTypes.nextOf (.ref it)) Q E s:=by
  cases tp with
  | false=>exact wpAny_nextOf_list_end hh (show s.heap.IsListIter it l i from ht) (show s.heap.IsList l xs from hq) hx k
  | true=>
    have ht:s.heap.IsTupleIter it l i:=ht
    obtain ⟨ob,eb,cb,db⟩:=id ht
    obtain ⟨ol,el,_,nl,dl⟩:=(show s.heap.IsTuple l xs from hq)
    unfold Builtin.SmallTypes.nextOf
    refine wpAny_bind (wpAny_callSpecial?_slot (name:=Str.ofString "__next__") ht.typeIs F.slot_tuple_iterator_next (wpAny_call_entry F.slot_tuple_iterator_next ht.typeIs F.entry_tuple_iterator_next ?_ (F.args_tuple_iterator_next_1 _)))
    show wpAny _ _ (field (.ref it) 0 >>= _) _ _ s
    refine wpAny_bind (wpAny_field eb db (x:= .ref l) rfl ?_)
    show wpAny _ _ (if (Value.ref l == Value.none)=true then _ else _) _ _ s
    rw [if_neg (show ¬ ((Value.ref l == Value.none)=true) from Bool.false_ne_true)]
    show wpAny _ _ (field (.ref it) 1 >>= _) _ _ s
    refine wpAny_bind (wpAny_field eb db (x:= .int i 0) rfl ?_)
    show wpAny _ _ (seqItems? (.ref l) >>= _) _ _ s
    refine wpAny_bind (wpAny_seqItems el dl ?_)
    simp only [Int.toNat_natCast,hx]
    refine wpAny_bind (wpAny_rule (wpAny_bind (wpAny_setField eb db (by simp) ?_)))
    show wpAny _ _ (newExc (.type "StopIteration") [] >>= _) _ _ _
    refine wpAny_bind ?_
    simp only [newExc,newTuple]
    refine wpAny_bind (wpAny_newObj_type ?_ (by size_fits))
    refine wpAny_bind (m:=firstArgMember _ _) (wpAny_of_eq (a:=Value.none) (by first | rfl | (simp only [firstArgMember];rfl)) ?_)
    refine wpAny_newObj_type ?_ (by size_fits)
    simp only [raiseNew]
    refine wpAny_bind (wpAny_handled ?_)
    first | rw [show A.in1.handled=none from hh] | rw [hh]
    exact wpAny_bind (wpAny_pure (wpAny_throw (k _ _ (((Heap.SameBut.update ..).extBut.push _).push _) ⟨_,Heap.get?_push_size _ rfl,rfl⟩)))
end
section
variable {prog:Program} {w:World} {A:Around} {E:Value→Shared→Prop} {s:Shared}
structure ZipSt (t1 t2:Bool) (h:Heap) (z TI TO i1 i2 l1 l2:Addr) (k:Nat):Prop where
  hz:IsZip h z TI TO .none
  hTI:IsPair h TI (.ref i1) (.ref i2)
  hTO:∃ c d,IsPair h TO c d
  h1:SrcIt t1 h i1 l1 k
  h2:SrcIt t2 h i2 l2 k
theorem zipS_item {t1 t2:Bool} {z TI TO i1 i2 l1 l2:Addr} {k:Nat} {xs ys:Array Value} {x y:Value} {Q:Value→Shared→Prop} (D:ZipApart z TI TO i1 i2 l1 l2) (Z:ZipSt t1 t2 s.heap z TI TO i1 i2 l1 l2 k)
    (q1:SrcSq t1 s.heap l1 xs) (q2:SrcSq t2 s.heap l2 ys) (hx:xs[k]?=some x) (hy:ys[k]?=some y)
    (fin:∀ h',IsZip h' z TI TO (rawInt s.heap.objs.size)→IsPair h' TO x y→SrcIt t1 h' i1 l1 (k+1)→SrcIt t2 h' i2 l2 (k+1)→IsPair h' s.heap.objs.size x y→
      (∀ c o,c≠z→c≠TO→c≠i1→c≠i2→s.heap.get? c=some o→h'.get? c=some o)→Q (.ref s.heap.objs.size) { s with heap:=h' }):
    wpAny (model prog w) A (Builtin.«zip.__next__» ⟨[.ref z],[]⟩) (fun fin s'=>∃ v,fin= .done (.ret v)∧Q v s') E s:=by
  obtain ⟨hz,hTI,⟨c0,d0,hTO⟩,g1,g2⟩:=Z
  show wpAny _ _ (field (.ref z) 2 >>= _) _ _ _
  refine wpAny_bind (wpAny_field hz rfl (x:= .bool false) rfl ?_)
  show wpAny _ _ (field (.ref z) 3 >>= _) _ _ _
  refine wpAny_bind (wpAny_field hz rfl (x:= .ref TI) rfl (wpAny_bind (wpAny_seqItems hTI rfl ?_)))
  show wpAny _ _ (Builtin.SmallTypes.ownedTupleIsFree (.ref z) >>= _) _ _ _
  refine wpAny_bind ?_
  unfold Builtin.SmallTypes.ownedTupleIsFree
  refine wpAny_bind (wpAny_field hz rfl (x:= .none) rfl (wpAny_pure ?_))
  simp only [if_true]
  refine wpAny_bind (wpAny_rule (wpAny_bind (wpAny_field hz rfl (x:= .ref TO) rfl (wpAny_bind (wpAny_setField_rec hz (by simp) fun a1 za b1=> ?_)))))
  replace za:IsZip a1 z TI TO .ellipsis:=za
  refine wpAny_bind ?_
  simp only [List.zipIdx_cons,List.zipIdx_nil,List.forIn_cons,List.forIn_nil]
  refine wpAny_bind (wpAny_bind (wpAny_onRaise ?_))
  show wpAny _ _ (Builtin.SmallTypes.nextOf (.ref i1) >>= _) _ _ _
  refine wpAny_bind (src_item (s:={ s with heap:=a1 }) (srcIt_at g1 fun o e=>b1.extBut _ o D.i1z e) (srcSq_at q1 fun o e=>b1.extBut _ o D.l1z e) hx fun a2 i1a b2=>wpAny_pure ?_)
  have to2:IsPair a2 TO c0 d0:=b2.extBut _ _ D.TOi1 (b1.extBut _ _ D.TOz hTO)
  refine wpAny_bind (wpAny_seqItems to2 rfl (wpAny_bind (wpAny_updateSeq_pair to2 fun a3 to3 b3=> ?_)))
  replace to3:IsPair a3 TO x d0:=to3
  refine wpAny_bind (wpAny_letGo (wpAny_pure (wpAny_bind (wpAny_bind (wpAny_onRaise ?_)))))
  show wpAny _ _ (Builtin.SmallTypes.nextOf (.ref i2) >>= _) _ _ _
  have up3:∀ c o,c≠z→c≠i1→c≠TO→s.heap.get? c=some o→a3.get? c=some o:=fun c o n1 n2 n3 e=>b3.extBut _ o n3 (b2.extBut _ o n2 (b1.extBut _ o n1 e))
  refine wpAny_bind (src_item (s:={ s with heap:=a3 }) (srcIt_at g2 fun o e=>up3 _ o D.i2z D.i12.symm D.TOi2.symm e) (srcSq_at q2 fun o e=>up3 _ o D.l2z D.l2i1 D.l2TO e) hy fun a4 i2a b4=>wpAny_pure ?_)
  have to4:IsPair a4 TO x d0:=b4.extBut _ _ D.TOi2 to3
  refine wpAny_bind (wpAny_seqItems to4 rfl (wpAny_bind (wpAny_updateSeq_pair to4 fun a5 to5 b5=> ?_)))
  replace to5:IsPair a5 TO x y:=to5
  refine wpAny_bind (wpAny_letGo (wpAny_pure (wpAny_pure (wpAny_bind (wpAny_seqItems to5 rfl (wpAny_bind (wpAny_newTuple ?_)))))))
  have sz:a5.objs.size=s.heap.objs.size:=by rw [b5.1,b4.1,b3.1,b2.1,b1.1]
  have z5:IsZip a5 z TI TO .ellipsis:=b5.extBut _ _ D.TOz.symm (b4.extBut _ _ D.i2z.symm (b3.extBut _ _ D.TOz.symm (b2.extBut _ _ D.i1z.symm za)))
  have k5:∀ c o,c≠z→c≠TO→c≠i1→c≠i2→s.heap.get? c=some o→a5.get? c=some o:=fun c o n1 n2 n3 n4 e=>b5.extBut _ _ n2 (b4.extBut _ _ n4 (up3 c o n1 n3 n2 e))
  have f1:SrcIt t1 a5 i1 l1 (k+1):=srcIt_at i1a fun o e=>b5.extBut _ o D.TOi1.symm (b4.extBut _ o D.i12 (b3.extBut _ o D.TOi1.symm e))
  have f2:SrcIt t2 a5 i2 l2 (k+1):=srcIt_at i2a fun o e=>b5.extBut _ o D.TOi2.symm e
  have zlt:z<a5.objs.size:=Heap.lt_size z5
  show wpAny _ _ (Builtin.SmallTypes.ownedTupleHandOut (.ref z) (.ref a5.objs.size) >>= _) _ _ _
  refine wpAny_bind ?_
  unfold Builtin.SmallTypes.ownedTupleHandOut
  have z6:IsZip (a5.push { cls:= .type "tuple",data:= .seq #[x,y] }) z TI TO .ellipsis:=Heap.get?_push_of_some _ z5
  refine wpAny_bind (wpAny_setField_rec z6 (by simp) fun a7 z7 b7=> ?_)
  replace z7:IsZip a7 z TI TO (rawInt a5.objs.size):=z7
  refine wpAny_setField_rec z7 (by simp) fun a8 z8 b8=> ?_
  replace z8:IsZip a8 z TI TO (rawInt a5.objs.size):=z8
  have up:∀ c o,c≠z→a5.get? c=some o→a8.get? c=some o:=fun c o n e=>b8.extBut _ _ n (b7.extBut _ _ n (Heap.get?_push_of_some _ e))
  have t8:IsPair a8 a5.objs.size x y:=b8.extBut _ _ (Nat.ne_of_gt zlt) (b7.extBut _ _ (Nat.ne_of_gt zlt) (Heap.get?_push_size _ rfl))
  rw [sz] at z8 t8
  refine wpAny_pure ⟨_,rfl,?_⟩
  show Q (.ref a5.objs.size) _
  rw [sz]
  exact fin a8 z8 (up _ _ D.TOz to5) (srcIt_at f1 fun o e=>up _ o D.i1z e) (srcIt_at f2 fun o e=>up _ o D.i2z e) t8 fun c o n1 n2 n3 n4 e=>up c o n1 (k5 c o n1 n2 n3 n4 e)
theorem zipS_end {t1 t2:Bool} {z TI TO i1 i2 l1 l2:Addr} {k:Nat} {xs ys:Array Value} {Q:Fin→Shared→Prop} (hh:A.handled=none) (D:ZipApart z TI TO i1 i2 l1 l2) (Z:ZipSt t1 t2 s.heap z TI TO i1 i2 l1 l2 k)
    (q1:SrcSq t1 s.heap l1 xs) (q2:SrcSq t2 s.heap l2 ys) (hend:xs[k]?=none∨ys[k]?=none)
    (fin:∀ h' e,(∀ c o,c≠z→c≠TO→c≠i1→c≠i2→s.heap.get? c=some o→h'.get? c=some o)→(∃ o,h'.get? e=some o∧o.cls= .type "StopIteration")→E (.ref e) { s with heap:=h' }):
    wpAny (model prog w) A (Builtin.«zip.__next__» ⟨[.ref z],[]⟩) Q E s:=by
  obtain ⟨hz,hTI,⟨c0,d0,hTO⟩,g1,g2⟩:=Z
  show wpAny _ _ (field (.ref z) 2 >>= _) _ _ _
  refine wpAny_bind (wpAny_field hz rfl (x:= .bool false) rfl ?_)
  show wpAny _ _ (field (.ref z) 3 >>= _) _ _ _
  refine wpAny_bind (wpAny_field hz rfl (x:= .ref TI) rfl (wpAny_bind (wpAny_seqItems hTI rfl ?_)))
  show wpAny _ _ (Builtin.SmallTypes.ownedTupleIsFree (.ref z) >>= _) _ _ _
  refine wpAny_bind ?_
  unfold Builtin.SmallTypes.ownedTupleIsFree
  refine wpAny_bind (wpAny_field hz rfl (x:= .none) rfl (wpAny_pure ?_))
  simp only [if_true]
  refine wpAny_bind (wpAny_rule (wpAny_bind (wpAny_field hz rfl (x:= .ref TO) rfl (wpAny_bind (wpAny_setField_rec hz (by simp) fun a1 za b1=> ?_)))))
  replace za:IsZip a1 z TI TO .ellipsis:=za
  refine wpAny_bind ?_
  simp only [List.zipIdx_cons,List.zipIdx_nil,List.forIn_cons,List.forIn_nil]
  refine wpAny_bind (wpAny_bind (wpAny_onRaise ?_))
  show wpAny _ _ (Builtin.SmallTypes.nextOf (.ref i1) >>= _) _ _ _
  have g1':=srcIt_at g1 fun o e=>b1.extBut _ o D.i1z e
  have q1':=srcSq_at q1 fun o e=>b1.extBut _ o D.l1z e
  cases hx:xs[k]? with
  | none=>
    refine wpAny_bind (src_end (s:={ s with heap:=a1 }) hh g1' q1' hx fun a2 e b2 he=> ?_)
    obtain ⟨oe,eo,ce⟩:=he
    have z2:IsZip a2 z TI TO .ellipsis:=b2 _ _ D.i1z.symm za
    have nz:e≠z:=fun q=>by subst q;rw [z2] at eo;cases eo;simp at ce
    exact wpAny_setField_rec z2 (by simp) fun a3 _ b3=>fin a3 e (fun c o n1 _ n3 _ q=>b3.extBut _ _ n1 (b2 _ _ n3 (b1.extBut _ _ n1 q))) ⟨oe,b3.extBut _ _ nz eo,ce⟩
  | some x=>
    have hy:ys[k]?=none:=by
      rcases hend with q | q
      · rw [hx] at q;cases q
      · exact q
    refine wpAny_bind (src_item (s:={ s with heap:=a1 }) g1' q1' hx fun a2 i1a b2=>wpAny_pure ?_)
    have to2:IsPair a2 TO c0 d0:=b2.extBut _ _ D.TOi1 (b1.extBut _ _ D.TOz hTO)
    refine wpAny_bind (wpAny_seqItems to2 rfl (wpAny_bind (wpAny_updateSeq_pair to2 fun a3 to3 b3=> ?_)))
    refine wpAny_bind (wpAny_letGo (wpAny_pure (wpAny_bind (wpAny_bind (wpAny_onRaise ?_)))))
    show wpAny _ _ (Builtin.SmallTypes.nextOf (.ref i2) >>= _) _ _ _
    have up3:∀ c o,c≠z→c≠i1→c≠TO→s.heap.get? c=some o→a3.get? c=some o:=fun c o n1 n2 n3 e=>b3.extBut _ o n3 (b2.extBut _ o n2 (b1.extBut _ o n1 e))
    refine wpAny_bind (src_end (s:={ s with heap:=a3 }) hh (srcIt_at g2 fun o e=>up3 _ o D.i2z D.i12.symm D.TOi2.symm e) (srcSq_at q2 fun o e=>up3 _ o D.l2z D.l2i1 D.l2TO e) hy fun a4 e b4 he=> ?_)
    obtain ⟨oe,eo,ce⟩:=he
    have z4:IsZip a4 z TI TO .ellipsis:=b4 _ _ D.i2z.symm (b3.extBut _ _ D.TOz.symm (b2.extBut _ _ D.i1z.symm za))
    have nz:e≠z:=fun q=>by subst q;rw [z4] at eo;cases eo;simp at ce
    exact wpAny_setField_rec z4 (by simp) fun a5 _ b5=>fin a5 e (fun c o n1 n2 n3 n4 q=>b5.extBut _ _ n1 (b4 _ _ n4 (up3 c o n1 n3 n2 q))) ⟨oe,b5.extBut _ _ nz eo,ce⟩
noncomputable def srcTy (tp:Bool):String:=if tp=true then "tuple_iterator" else "list_iterator"
theorem src_iter {tp:Bool} {l:Addr} {xs:Array Value} {Q:Value→Shared→Prop} (hq:SrcSq tp s.heap l xs) (k:Q (.ref s.heap.objs.size) { s with heap:=s.heap.push { cls:= .type (srcTy tp),data:= .fields #[.ref l, .int 0 0] } }):
    wpAny (model prog w) A (pyIter (.ref l)) Q E s:=by
  cases tp with
  | false=>exact wpAny_pyIter_list (show s.heap.IsList l xs from hq) k
  | true=>exact wpAny_pyIter_tuple (show s.heap.IsTuple l xs from hq) k
theorem srcIt_new {tp:Bool} {h:Heap} {l:Addr}:SrcIt tp (h.push { cls:= .type (srcTy tp),data:= .fields #[.ref l, .int 0 0] }) h.objs.size l 0:=by
  cases tp with
  | false=>exact (show Heap.IsListIter _ _ l 0 from ⟨_,Heap.get?_push_size _ rfl,rfl,rfl⟩)
  | true=>exact (show Heap.IsTupleIter _ _ l 0 from ⟨_,Heap.get?_push_size _ rfl,rfl,rfl⟩)
noncomputable abbrev zs1 (t1:Bool) (h:Heap) (l1:Addr):Heap:=h.push { cls:= .type (srcTy t1),data:= .fields #[.ref l1, .int 0 0] }
noncomputable abbrev zs2 (t1 t2:Bool) (h:Heap) (l1 l2:Addr):Heap:=(zs1 t1 h l1).push { cls:= .type (srcTy t2),data:= .fields #[.ref l2, .int 0 0] }
noncomputable abbrev zs3 (t1 t2:Bool) (h:Heap) (l1 l2:Addr):Heap:=(zs2 t1 t2 h l1 l2).push { cls:= .type "tuple",data:= .seq #[.ref h.objs.size, .ref (zs1 t1 h l1).objs.size] }
noncomputable abbrev zs4 (t1 t2:Bool) (h:Heap) (l1 l2:Addr):Heap:=(zs3 t1 t2 h l1 l2).push { cls:= .type "tuple",data:= .seq #[.none, .none] }
noncomputable abbrev zs5 (t1 t2:Bool) (h:Heap) (l1 l2:Addr):Heap:=(zs4 t1 t2 h l1 l2).push { cls:= .type "zip",data:= .fields #[.none, .bool false, .bool false, .ref (zs2 t1 t2 h l1 l2).objs.size, .ref (zs3 t1 t2 h l1 l2).objs.size] }
theorem meets_zipS (t1 t2:Bool) (l1 l2:Addr) (xs ys:Array Value):
    Meets (Builtin.«zip.__new__» ⟨[.type "zip", .ref l1, .ref l2],[]⟩) (fun _ R s=>SrcSq t1 s.heap l1 xs∧SrcSq t2 s.heap l2 ys∧
      R (.ok (.ret (.ref (zs4 t1 t2 s.heap l1 l2).objs.size))) { s with heap:=zs5 t1 t2 s.heap l1 l2 }):=
  .of_wp fun prog w A R s h=>by
    obtain ⟨hp,g,d,tk,os⟩:=s
    obtain ⟨m1,m2,h⟩:=h
    have hsub:=sub_zip
    have M1:SrcSq t1 (Shared.heap ⟨hp,g,d,tk,os⟩) l1 xs:=m1
    have M2:SrcSq t2 (Shared.heap ⟨hp.push { cls:= .type (srcTy t1),data:= .fields #[.ref l1, .int 0 0] },g,d,tk,os⟩) l2 ys:=srcSq_at m2 fun o e=>Heap.get?_push_of_some _ e
    wp_walk using src_iter M1,src_iter M2
    exact ⟨_,rfl,h⟩
theorem call_zipS {t1 t2:Bool} {l1 l2:Addr} {xs ys:Array Value} {Q:Value→Shared→Prop} (m1:SrcSq t1 s.heap l1 xs) (m2:SrcSq t2 s.heap l2 ys)
    (k:∀ h',ZipSt t1 t2 h' (s.heap.objs.size+4) (s.heap.objs.size+2) (s.heap.objs.size+3) s.heap.objs.size (s.heap.objs.size+1) l1 l2 0→
      (∀ c o,s.heap.get? c=some o→h'.get? c=some o)→Q (.ref (s.heap.objs.size+4)) { s with heap:=h' }):
    wpAny (model prog w) A (call (.type "zip") [.ref l1, .ref l2]) Q E s:=by
  refine callType_new F.called_zip (by decide) (F.typeCall_zip_2 _ _) (F.newCall_zip_2 _ _) (fun obj=>F.args_object_init_3 obj _ _) F.entry_zip_new (meets_zipS t1 t2 l1 l2 xs ys) ⟨m1,m2,?_⟩
  have n1:(zs1 t1 s.heap l1).objs.size=s.heap.objs.size+1:=Heap.size_push ..
  have n2:(zs2 t1 t2 s.heap l1 l2).objs.size=s.heap.objs.size+2:=by rw [Heap.size_push,n1]
  have n3:(zs3 t1 t2 s.heap l1 l2).objs.size=s.heap.objs.size+3:=by rw [Heap.size_push,n2]
  have n4:(zs4 t1 t2 s.heap l1 l2).objs.size=s.heap.objs.size+4:=by rw [Heap.size_push,n3]
  have g5:(zs5 t1 t2 s.heap l1 l2).get? (zs4 t1 t2 s.heap l1 l2).objs.size=some _:=Heap.get?_push_size _ rfl
  have g4:(zs5 t1 t2 s.heap l1 l2).get? (zs3 t1 t2 s.heap l1 l2).objs.size=some _:=Heap.get?_push_of_some _ (Heap.get?_push_size _ rfl)
  have g3:(zs5 t1 t2 s.heap l1 l2).get? (zs2 t1 t2 s.heap l1 l2).objs.size=some _:=Heap.get?_push_of_some _ (Heap.get?_push_of_some _ (Heap.get?_push_size _ rfl))
  have up2:∀ c o,(zs2 t1 t2 s.heap l1 l2).get? c=some o→(zs5 t1 t2 s.heap l1 l2).get? c=some o:=fun c o e=>Heap.get?_push_of_some _ (Heap.get?_push_of_some _ (Heap.get?_push_of_some _ e))
  have s2:SrcIt t2 (zs5 t1 t2 s.heap l1 l2) (zs1 t1 s.heap l1).objs.size l2 0:=srcIt_at srcIt_new fun o e=>up2 _ o e
  have s1:SrcIt t1 (zs5 t1 t2 s.heap l1 l2) s.heap.objs.size l1 0:=srcIt_at srcIt_new fun o e=>up2 _ o (Heap.get?_push_of_some _ e)
  show _∧_
  rw [n2,n3,n4] at g5
  rw [n1,n2] at g3
  rw [n3] at g4
  rw [n1] at s2
  rw [n4]
  exact ⟨⟨_,g5,rfl⟩,k _ ⟨g5,g3,⟨_,_,g4⟩,s1,s2⟩ fun c o e=>up2 c o (Heap.get?_push_of_some _ (Heap.get?_push_of_some _ e))⟩
end
noncomputable def SqS (tp:Bool) (K:PySem.W.Frag) (H:Hp) (a:Addr) (xs:List V):Prop:=if tp=true then SqT K H a xs else SqL K H a xs
theorem sqS_src {X:Cx} {pins:List (Addr × Obj)} {σ:St} {H:Hp} {s:Shared} {tp:Bool} {a:Addr} {xs:List V} (I:Inv X pins σ H s) (h:SqS tp X.K H a xs):∃ its:List Value,Vals xs its∧SrcSq tp s.heap a its.toArray:=by
  cases tp with
  | false=>
    obtain ⟨its,r,p,_⟩:=I.list (show SqL X.K H a xs from h)
    exact ⟨its,r,(show s.heap.IsList a its.toArray from p.isList)⟩
  | true=>
    obtain ⟨its,r,p,_⟩:=I.tuple (show SqT X.K H a xs from h)
    exact ⟨its,r,(show s.heap.IsTuple a its.toArray from p)⟩
theorem sqS_inj {X:Cx} {pins:List (Addr × Obj)} {σ:St} {H:Hp} {s:Shared} {tp:Bool} {a:Addr} {xs ys:List V} (I:Inv X pins σ H s) (h:SqS tp X.K H a xs) (h2:SqS tp X.K H a ys):xs=ys:=by
  cases tp with
  | false=>exact I.list_inj h h2
  | true=>exact I.tuple_inj h h2
noncomputable def Izs (t1 t2:Bool) (K:PySem.W.Frag) (a b:Addr):It:=
  ⟨fun i H=>∃ xs ys x y,SqS t1 K H a xs∧SqS t2 K H b ys∧xs[i]?=some x∧ys[i]?=some y,
   fun i H v H'=>∃ p x y,H p=none∧v= .ref p∧H'=upd H p (.tup [x,y])∧(∀ xs,SqS t1 K H a xs→xs[i]?=some x)∧∀ ys,SqS t2 K H b ys→ys[i]?=some y,
   fun i H=>∃ xs ys,SqS t1 K H a xs∧SqS t2 K H b ys∧(xs.length≤i∨ys.length≤i)⟩
theorem turn_zs {P:Program} {w:World} {K:PySem.W.Frag} {elts:List Expr} {k:Nat} {pos:Pos} (t1 t2:Bool) (a b z TI TO i1 i2:Addr) (D:ZipApart z TI TO i1 i2 a b):
    Turn P w K (.Tuple elts k pos) (Izs t1 t2 K a b) [z,TI,TO,i1,i2] z (fun i h=>ZipSt t1 t2 h z TI TO i1 i2 a b i) where
  mem:=by simp
  obj:=fun i h st c hc=>by
    obtain ⟨hz,hTI,⟨x,y,hTO⟩,h1,h2⟩:=st
    obtain ⟨o1,e1,d1⟩:=srcIt_obj h1
    obtain ⟨o2,e2,d2⟩:=srcIt_obj h2
    simp only [List.mem_cons,List.not_mem_nil,or_false] at hc
    rcases hc with q | q | q | q | q
    · subst q;exact ⟨_,hz,fun v z=>by cases (show Data.fields _=Data.cell v from z)⟩
    · subst q;exact ⟨_,hTI,fun v z=>by cases (show Data.seq _ _=Data.cell v from z)⟩
    · subst q;exact ⟨_,hTO,fun v z=>by cases (show Data.seq _ _=Data.cell v from z)⟩
    · subst q;exact ⟨o1,e1,fun v z=>by rw [d1] at z;cases z⟩
    · subst q;exact ⟨o2,e2,fun v z=>by rw [d2] at z;cases z⟩
  keep:=fun i h h' st kp=>by
    obtain ⟨hz,hTI,⟨x,y,hTO⟩,h1,h2⟩:=st
    exact ⟨kp z (by simp) _ hz,kp TI (by simp) _ hTI,⟨x,y,kp TO (by simp) _ hTO⟩,srcIt_at h1 fun o q=>kp i1 (by simp) o q,srcIt_at h2 fun o q=>kp i2 (by simp) o q⟩
  item:=by
    intro X hP hw hK hc i pins s σ H E I hf st hg
    subst hP hw hK
    obtain ⟨xs,ys,x,y,hq1,hq2,hx,hy⟩:=hg
    obtain ⟨its,rv,p1⟩:=sqS_src I hq1
    obtain ⟨its2,rv2,p2⟩:=sqS_src I hq2
    obtain ⟨u,hu,ru⟩:=rv.get hx
    obtain ⟨u2,hu2,ru2⟩:=rv2.get hy
    have lt:∀ q∈[z,TI,TO,i1,i2],q<s.heap.objs.size:=fun q hq=>by
      obtain ⟨hz,hTI,⟨c,d,hTO⟩,h1,h2⟩:=id st
      obtain ⟨_,e1,_⟩:=srcIt_obj h1
      obtain ⟨_,e2,_⟩:=srcIt_obj h2
      simp only [List.mem_cons,List.not_mem_nil,or_false] at hq
      rcases hq with q' | q' | q' | q' | q'
      · subst q';exact Heap.lt_size hz
      · subst q';exact Heap.lt_size hTI
      · subst q';exact Heap.lt_size hTO
      · subst q';exact Heap.lt_size e1
      · subst q';exact Heap.lt_size e2
    have hT0:s.TypeIs (.ref z) "zip":=⟨_,st.hz,rfl⟩
    unfold pyNext
    refine wpAny_bind (wpAny_attempt (wpAny_callSpecial?_slot (name:=Str.ofString "__next__") hT0 F.slot_zip_next (wpAny_call_entry F.slot_zip_next hT0 F.entry_zip_next
      (zipS_item D st p1 p2 (x:=u) (y:=u2) (by simpa using hu) (by simpa using hu2) fun h' hz' hTO' h1' h2' hT hk=>wpAny_pure ?_) (F.args_zip_next_1 _))))
    have I0:=I.laid (h':=s.heap.push { cls:= .type "tuple",data:= .seq #[u,u2] }) (a:=s.heap.objs.size) (o:= .tup [x,y]) (t':=s.toks) (fun _ _ q=>Heap.get?_push_of_some _ q) (Nat.le_refl _)
      ⟨(by show 2≤sizeLine;decide),[u,u2], .cons ru (.cons ru2 .nil),⟨_,Heap.get?_push_size _ rfl,rfl,_,rfl⟩⟩
    have f0:∀ b∈[z,TI,TO,i1,i2],FpOk X pins (upd H s.heap.objs.size (.tup [x,y])) b:=fun b hb=>fp_upd (hf b hb) (Nat.ne_of_lt (lt b hb))
    have I1:=Inv.turnedL (t':=s.toks) (h':=h') [z,TI,TO,i1,i2] I0 f0 (fun b o hb q=>by
      rcases Heap.get?_push_cases (show (s.heap.push { cls:= .type "tuple",data:= .seq #[u,u2] }).get? b=some o from q) with ⟨q1,q2⟩ | q
      · rw [q1,q2];exact hT
      · exact hk b o (fun e=>hb (by simp [e])) (fun e=>hb (by simp [e])) (fun e=>hb (by simp [e])) (fun e=>hb (by simp [e])) q)
    refine ⟨.ref s.heap.objs.size,rfl,wpAny_letOwnedTupleGo_zip (s:={ s with heap:=h' }) hz' fun h3 hz3 sb=> ?_⟩
    refine ⟨.ref s.heap.objs.size,_,Inv.turnedL (t':=s.toks) (h':=h3) [z,TI,TO,i1,i2] I1 f0 (fun b o hb q=>(sb.2 b fun e=>hb (by simp [e])).trans q),rfl,
      ⟨_,x,y,I.fresh,rfl,rfl,fun l hl=>by rw [sqS_inj I hl hq1];exact hx,fun l hl=>by rw [sqS_inj I hl hq2];exact hy⟩,
      ⟨hz3,(sb.2 TI D.TIz).trans (hk TI _ D.TIz D.TITO D.TIi1 D.TIi2 st.hTI),⟨u,u2,(sb.2 TO D.TOz).trans hTO'⟩,srcIt_at h1' fun o q=>(sb.2 i1 D.i1z).trans q,srcIt_at h2' fun o q=>(sb.2 i2 D.i2z).trans q⟩,fun b hb=>(f0 b hb).1⟩
  done:=by
    intro X hP hw hK hc i pins s σ H E I hf st hg
    subst hP hw hK
    obtain ⟨xs,ys,hq1,hq2,hx⟩:=hg
    obtain ⟨its,rv,p1⟩:=sqS_src I hq1
    obtain ⟨its2,rv2,p2⟩:=sqS_src I hq2
    have hl:=rv.length
    have hl2:=rv2.length
    have hT0:s.TypeIs (.ref z) "zip":=⟨_,st.hz,rfl⟩
    unfold pyNext
    refine wpAny_bind (wpAny_attempt (wpAny_callSpecial?_slot (name:=Str.ofString "__next__") hT0 F.slot_zip_next (wpAny_call_entry F.slot_zip_next hT0 F.entry_zip_next
      (zipS_end (I.ok.hd hc) D st p1 p2 (hx.elim (fun q=> .inl (by simp;omega)) fun q=> .inr (by simp;omega)) fun h' e eb he=> ?_) (F.args_zip_next_1 _))))
    obtain ⟨oe,eo,ce⟩:=he
    refine wpAny_bind (wpAny_isInstance (T:="StopIteration") (b:=true) ⟨oe,eo,ce⟩ isSubtype_stop (wpAny_pure ?_))
    exact ⟨rfl,I.turnedL (t':=s.toks) [z,TI,TO,i1,i2] hf fun b o hb q=>eb b o (fun e=>hb (by simp [e])) (fun e=>hb (by simp [e])) (fun e=>hb (by simp [e])) (fun e=>hb (by simp [e])) q⟩
  self:=fun _ _ _ _ _ st h=>wpAny_pyIter_zip st.hz h
section
variable {X:Cx} {elts:List Expr} {k:Nat} {tpos:Pos} {K:PySem.W.Frag}
noncomputable def iZs (K:PySem.W.Frag) (ta:TA):TI:=fun σ H R=>ta σ H fun vs H1=>∃ t1 t2 a b,vs=[.ref a, .ref b]∧(∃ xs,SqS t1 K H1 a xs)∧(∃ ys,SqS t2 K H1 b ys)∧R (Izs t1 t2 K a b) H1
theorem pi_zs {l m:Expr} {ta:TA} {p pos:Pos} (hg:Gl X "zip") (hm:X.mg "zip"=none) (ha:PA X [l,m] ta) (hK:X.K=K:=by rfl) (hs:starEach [l,m] X.env=[(false,eval l X.env),(false,eval m X.env)]:=by rfl) (hs2:starEach [m] X.env=[(false,eval m X.env)]:=by rfl):
    PI X (.Tuple elts k tpos) (.Call (.Name "zip" p) [l,m] [] pos) (iZs K ta):=by
  subst hK
  intro pins s σ H R I h
  refine Call_ (ld_blt I hg hm boot_zip (PyProof.Rows.callWith_type1 (thn (ha pos pins s σ H _ I h) fun us s1 ⟨vs,H1,I1,r1,q1⟩=> ?_) (by rw [hs,hs2]) (by rw [hs2];rfl)))
  obtain ⟨t1,t2,a,b,e,⟨xs,hq⟩,⟨ys,hq2⟩,q⟩:=q1
  subst e
  cases r1 with
  | cons r rr=>
    cases rr with
    | cons r' rr=>
    cases rr
    cases r
    cases r'
    obtain ⟨its,rv,pl⟩:=sqS_src I1 hq
    obtain ⟨its2,rv2,pl2⟩:=sqS_src I1 hq2
    obtain ⟨oa,_,ea,_⟩:=srcSq_obj pl
    obtain ⟨ob,_,eb,_⟩:=srcSq_obj pl2
    refine call_zipS pl pl2 fun h' st hk=> ?_
    refine wpAny_pyIter_zip st.hz ?_
    have I2:=I1.kept (t':=s1.toks) hk
    refine ⟨s1.heap.objs.size+4,_,_,_,H1,rfl,I2,turn_zs t1 t2 a b _ _ _ _ _ (PySem.W.ktu_apart s1.heap.objs.size a b (Heap.lt_size ea) (Heap.lt_size eb)),st,fun c hc=> ?_,q⟩
    have hb':s1.heap.objs.size≤c:=by
      simp only [List.mem_cons,List.not_mem_nil,or_false] at hc
      rcases hc with q | q | q | q | q <;> rw [q] <;> first | exact Nat.le_refl _ | exact Nat.le_add_right _ _
    exact I1.fpOk hb' (I1.hok.fresh hb')
end
end L2
namespace L2
open PySem PySem.Spec PyProof.Rows
section
variable {X:Cx} {K:PySem.W.Frag}
theorem boot_list':bootBuiltins "list"=some (.type "list"):=by decide +kernel
theorem boot_tuple':bootBuiltins "tuple"=some (.type "tuple"):=by decide +kernel
theorem k_gtup {es:List Expr} {k:Nat} {t:TGs} {n:Nat} {pos:Pos} (hc:X.calm=true) (h:PGs X es t) (hK:X.K=K:=by rfl)
    (hn:(assignEach es X.env).length=n:=by rfl) (hst:(assignEach es X.env).findIdx? (·.1)=none:=by rfl):PG X (.Tuple es k pos) (gTup K n t):=by
  subst hK
  exact pg_tup hc h hn hst
variable {scope:Scope} {fr:List (Str × Nat)}
theorem pg_own2 {x y:Str} {px py pt:Pos} {k:Nat} (h:blkOk X.env.scope X.N scope [x,y] fr=true) (hc:X.calm=true) (C:Addr) (ex:List Addr) (s:Shared) (H:Hp) (hK:X.K=K:=by rfl):
    PG (blkCx X scope [x,y] fr C ex s H) (.Tuple [.Name x px, .Name y py] k pt) (gTup K 2 (gCons (gName 0) (gCons (gName 1) gNil))):=by
  subst hK
  exact pg_tup (X:=blkCx X scope [x,y] fr C ex s H) hc (pgs_cons (pg_own h rfl C ex s H) (pgs_cons (pg_own h rfl C ex s H) pgs_nil))
theorem pe_comp2 {elt iter:Expr} {x y:Str} {px py pt:Pos} {k:Nat} {ifs:List Expr} {pos:Pos} {wi:TI} {tc:TT} {te:TE} (hi:PI X (.Tuple [.Name x px, .Name y py] k pt) iter wi)
    (ht:∀ C ex s H,PTs (blkCx X scope [x,y] (frOf X.N scope) C ex s H) ifs tc) (he:∀ C ex s H,PE (blkCx X scope [x,y] (frOf X.N scope) C ex s H) elt te) (hK:X.K=K:=by rfl)
    (hb:blkOk X.env.scope X.N scope [x,y] (frOf X.N scope)=true:=by with_unfolding_all rfl) (hc:X.calm=true:=by rfl)
    (hs:∀ x,foldedSetIterable iter X.env x=pure x:=by intro _;rfl):PE X (.ListComp elt [⟨.Tuple [.Name x px, .Name y py] k pt,iter,ifs,0⟩] scope pos) (tComp wi [x,y] (frOf X.N scope) (gTup K 2 (gCons (gName 0) (gCons (gName 1) gNil))) tc te):=
  pe_comp hc (.of hb) hi (fun C ex s H=>pg_own2 hb hc C ex s H hK) ht he hs
theorem ps_comp2 {i:Nat} {v x y:Str} {pv px py pt spos:Pos} {k:Nat} {elt iter:Expr} {ifs:List Expr} {pos:Pos} {wi:TI} {tc:TT} {te:TE} (hN:X.N.Nodup) (hix:X.N[i]?=some v) (hx:Loc X.env.scope v) (hi:PI X (.Tuple [.Name x px, .Name y py] k pt) iter wi)
    (ht:∀ C ex s H,PTs (blkCx X scope [x,y] (frOf X.N scope) C ex s H) ifs tc) (he:∀ C ex s H,PE (blkCx X scope [x,y] (frOf X.N scope) C ex s H) elt te) (hK:X.K=K:=by rfl)
    (hb:blkOk X.env.scope X.N scope [x,y] (frOf X.N scope)=true:=by with_unfolding_all rfl) (hc:X.calm=true:=by rfl)
    (hsw:swapsWith (.ListComp elt [⟨.Tuple [.Name x px, .Name y py] k pt,iter,ifs,0⟩] scope pos) (some (.Name v pv)) spos.line X.env=pure true:=by rfl)
    (hf:X.fn v=true∨X.env.scope.names.lookup v=some .local:=by first | exact .inl rfl | exact .inr rfl | assumption)
    (hs:∀ x,foldedSetIterable iter X.env x=pure x:=by intro _;rfl):
    PS X (.Assign [.Name v pv] (.ListComp elt [⟨.Tuple [.Name x px, .Name y py] k pt,iter,ifs,0⟩] scope pos) spos) (tAsg (tComp wi [x,y] (frOf X.N scope) (gTup K 2 (gCons (gName 0) (gCons (gName 1) gNil))) tc te) (gName i)):=
  ps_comp hN hix hx hc (.of hb) hi (fun C ex s H=>pg_own2 hb hc C ex s H hK) ht he hsw hf hs
end
section
variable {K:PySem.W.Frag} {D:Addr} {σ0:St} {tc:TT} {te:TE} {Q:VK} {H:Hp}
end
end L2
namespace L2
open PySem PySem.Spec PyProof.Rows
inductive Dt where
  | non | bl (b:Bool) | int (i:Int) | str (z:Str) | lst (xs:List Dt) | tup (xs:List Dt)
inductive Rp (H:Hp) (F:Addr→Prop):Nat→V→Dt→Prop where
  | non {n:Nat}:Rp H F n .non .non
  | bl {n:Nat} (b:Bool):Rp H F n (.bl b) (.bl b)
  | int {n:Nat} (i:Int):Rp H F n (.int i) (.int i)
  | str {n:Nat} (z:Str):Rp H F n (.str z) (.str z)
  | lst {n:Nat} {a:Addr} {vs:List V} {ds:List Dt} (h:H a=some (.lst vs)) (f:F a) (b:vs.length≤100000) (l:vs.length=ds.length) (e:∀ (i:Nat) (v:V) (d:Dt),vs[i]?=some v→ds[i]?=some d→Rp H F n v d):Rp H F (n+1) (.ref a) (.lst ds)
  | tup {n:Nat} {a:Addr} {vs:List V} {ds:List Dt} (h:H a=some (.tup vs)) (b:vs.length≤100000) (l:vs.length=ds.length) (e:∀ (i:Nat) (v:V) (d:Dt),vs[i]?=some v→ds[i]?=some d→Rp H F n v d):Rp H F (n+1) (.ref a) (.tup ds)
theorem Rp.mono {H H':Hp} {F F':Addr→Prop} {n:Nat} {v:V} {d:Dt} (r:Rp H F n v d) (k:∀ a o,H a=some o→(∀ xs,o= .lst xs→F a)→H' a=some o) (f:∀ a,F a→F' a):Rp H' F' n v d:=by
  induction r with
  | non=>exact .non
  | bl b=>exact .bl b
  | int i=>exact .int i
  | str z=>exact .str z
  | lst h p b l e ih=>exact .lst (k _ _ h fun _ _=>p) (f _ p) b l fun i v d h1 h2=>ih i v d h1 h2
  | tup h b l e ih=>exact .tup (k _ _ h fun xs q=>by cases q) b l fun i v d h1 h2=>ih i v d h1 h2
theorem Rp.same {H H':Hp} {F:Addr→Prop} {n:Nat} {v:V} {d:Dt} (r:Rp H F n v d) (s:Same H H'):Rp H' F n v d:=r.mono (fun a o h _=>s a o h) fun _ h=>h
theorem Rp.imp {H:Hp} {F F':Addr→Prop} {n:Nat} {v:V} {d:Dt} (r:Rp H F n v d) (f:∀ a,F a→F' a):Rp H F' n v d:=r.mono (fun a o h _=>h) f
theorem Rp.up {H:Hp} {F:Addr→Prop} {n m:Nat} {v:V} {d:Dt} (r:Rp H F n v d) (h:n≤m):Rp H F m v d:=by
  induction r generalizing m with
  | non=>exact .non
  | bl b=>exact .bl b
  | int i=>exact .int i
  | str z=>exact .str z
  | lst h p b l e ih=>
    cases m with
    | zero=>exact absurd h (by omega)
    | succ m=>exact .lst ‹_› p b l fun i v d h1 h2=>ih i v d h1 h2 (by omega)
  | tup h b l e ih=>
    cases m with
    | zero=>exact absurd h (by omega)
    | succ m=>exact .tup ‹_› b l fun i v d h1 h2=>ih i v d h1 h2 (by omega)
noncomputable abbrev FT:Addr→Prop:=fun _=>True
noncomputable abbrev FN (H:Hp):Addr→Prop:=fun a=>H a=none
theorem Rp.any {H:Hp} {F:Addr→Prop} {n:Nat} {v:V} {d:Dt} (r:Rp H F n v d):Rp H FT n v d:=r.imp fun _ _=>trivial
theorem Rp.new {H:Hp} {F:Addr→Prop} {n:Nat} {v:V} {d:Dt} {p:Addr} {o:HO} (r:Rp H F n v d) (h:H p=none):Rp (L2.upd H p o) F n v d:=r.same fun b u e=>by rw [upd_ne (ne_of_none e h)];exact e
noncomputable def dInts (ns:List Int):Dt:= .lst (ns.map .int)
theorem ints_of {H:Hp} {F:Addr→Prop} {n:Nat} {v:V} {ns:List Int} (r:Rp H F n v (dInts ns)):∃ a,v= .ref a∧H a=some (.lst (ns.map V.int))∧F a:=by
  unfold dInts at r
  cases r with
  | @lst n a vs _ h f b l e=>
    refine ⟨a,rfl,?_,f⟩
    rw [h]
    congr 2
    refine List.ext_getElem (by simpa using l) fun i h1 h2=> ?_
    have h2':i<ns.length:=by simpa using h2
    have:=e i vs[i] (.int ns[i]) (by simp [h1]) (by simp [h2'])
    cases hv:vs[i] <;> rw [hv] at this <;> cases this
    simp
end L2
namespace L2
open PySem PySem.Spec PyProof.Rows
section
variable {t u:TS} {D:Ends} {σ:St} {H:Hp} {te ta tb tk:TE} {tt tu:TT} {g:TG} {Q:VK} {QT:Bool→Hp→Prop} {QA:List V→Hp→Prop} {i:Nat} {v x y:V} {r:R2} {tr:TA} {K:PySem.W.Frag}
theorem rd_seq (h:t { D with nx:=u D } σ H):tSeq t u D σ H:=h
theorem rd_next (h:D.nx σ H):tNext D σ H:=h
theorem rd_asg (h:te σ H fun x H1=>g x σ H1 D.nx):tAsg te g D σ H:=h
theorem rd_name {QS:St→Hp→Prop} (h:QS (σ.set i (some v)) H):gName i v σ H QS:=h
theorem rd_var (e:σ[i]?=some (some v)) (h:Q v H):tVar i σ H Q:=⟨v,e,h⟩
theorem rd_c (h:Q v H):tC v σ H Q:=h
theorem rd_op (h:ta σ H fun x H1=>tb σ H1 fun y H2=>r x y H2 Q):tOp r ta tb σ H Q:=h
theorem rd_un {ru:V→Hp→VK→Prop} (h:ta σ H fun x H1=>ru x H1 Q):tUn ru ta σ H Q:=h
theorem rd_rI {C:Int→Int→Prop} {gg:Int→Int→V} {a b:Int} (c:C a b) (h:Q (gg a b) H):rI C gg (.int a) (.int b) H Q:=⟨a,b,rfl,rfl,c,h⟩
theorem rd_rI0 {gg:Int→Int→V} {a b:Int} (h:Q (gg a b) H):rI0 gg (.int a) (.int b) H Q:=⟨a,b,rfl,rfl,h⟩
theorem rd_rU {gg:Int→V} {a:Int} (h:Q (gg a) H):rU gg (.int a) H Q:=⟨a,rfl,h⟩
theorem rd_eqI {a b:Int} (h:Q (.bl (decide (a=b))) H):rEq (.int a) (.int b) H Q:=⟨rfl,by rw [show decide (V.int a=V.int b)=decide (a=b) by rw [Bool.eq_iff_iff];simp];exact h⟩
theorem rd_neI {a b:Int} (h:Q (.bl (!decide (a=b))) H):rNe (.int a) (.int b) H Q:=⟨rfl,by rw [show decide (V.int a=V.int b)=decide (a=b) by rw [Bool.eq_iff_iff];simp];exact h⟩
theorem rd_eqS {a b:Str} (h:Q (.bl (decide (a=b))) H):rEq (.str a) (.str b) H Q:=⟨rfl,by rw [show decide (V.str a=V.str b)=decide (a=b) by rw [Bool.eq_iff_iff];simp];exact h⟩
theorem rd_not (h:tt σ H fun c H1=>QT (!c) H1):tNot tt σ H QT:=h
theorem rd_test (h:te σ H fun x H'=>∃ k,x= .bl k∧QT k H'):tTest te σ H QT:=h
theorem rd_tB (h:te σ H fun x H'=>∃ k,x= .bl k∧QT k H'):tB te σ H QT:=h
theorem rd_bl {b:Bool} {R:Bool→Prop} (h:R b):∃ k,V.bl b= .bl k∧R k:=⟨b,rfl,h⟩
theorem rd_or (h:tt σ H fun c H1=>if c=true then QT true H1 else tu σ H1 QT):tOr tt tu σ H QT:=h
theorem rd_and (h:tt σ H fun c H1=>if c=true then tu σ H1 QT else QT false H1):tAnd tt tu σ H QT:=h
theorem rd_andV (h:ta σ H fun x H1=>∃ c,x= .bl c∧if c=true then tb σ H1 Q else Q (.bl false) H1):tAndV ta tb σ H Q:=h
theorem rd_notV (h:ta σ H fun x H1=>∃ c,x= .bl c∧Q (.bl (!c)) H1):tNotV ta σ H Q:=h
theorem rd_ifS (h:tt σ H fun b H1=>if b=true then t D σ H1 else u D σ H1):tIfS tt t u D σ H:=h
theorem rd_if (h:tt σ H fun c H1=>if c=true then ta σ H1 Q else tb σ H1 Q):tIf tt ta tb σ H Q:=h
theorem rd_ret (h:te σ H D.rt):tRet te D σ H:=h
theorem rd_drop (h:te σ H fun _ H1=>D.nx σ H1):tDrop te D σ H:=h
theorem rd_nil (h:QA [] H):tNil σ H QA:=h
theorem rd_cons (h:te σ H fun x H1=>tr σ H1 fun xs H2=>QA (x::xs) H2):tCons te tr σ H QA:=h
theorem rd_lst (h:tr σ H fun xs H1=>xs.length≤sizeLine∧∀ p,H1 p=none→Q (.ref p) (upd H1 p (.lst xs))):tLst tr σ H Q:=h
theorem rd_tup (h:tr σ H fun xs H1=>xs.length≤sizeLine∧∀ p,H1 p=none→Q (.ref p) (upd H1 p (.tup xs))):tTup tr σ H Q:=h
theorem rd_cb {rr:List V→Hp→VK→Prop} (h:tr σ H fun vs H1=>rr vs H1 Q):tCB rr tr σ H Q:=h
theorem rd_call {sp:Sp} {E:XK} (h:tr σ H fun vs H1=>sp vs H1 Q E):tCall sp [] E tr σ H Q:=by
  unfold tCall
  simpa using h
theorem rd_sl {rs:V→Option Int→Option Int→Hp→VK→Prop} {tl th:TO} (h:te σ H fun x H1=>tl σ H1 fun l H2=>th σ H2 fun u H3=>rs x l u H3 Q):tSl rs te tl th σ H Q:=h
theorem rd_part {QO:Option Int→Hp→Prop} (h:te σ H fun x H1=>∃ i,x= .int i∧QO (some i) H1):tPart te σ H QO:=h
theorem rd_noPart {QO:Option Int→Hp→Prop} (h:QO none H):tNoPart σ H QO:=h
theorem rd_int {a:Int} {R:Int→Prop} (h:R a):∃ k,V.int a= .int k∧R k:=⟨a,rfl,h⟩
theorem rd_slL {p:Addr} {xs:List V} {lo hi:Option Int} (c:SqL K H p xs) (h:∀ q,H q=none→Q (.ref q) (upd H q (.lst (cutV xs lo hi)))):rSlL K (.ref p) lo hi H Q:=⟨p,xs,rfl,c,h⟩
theorem rd_lenS {z:Str} (c:z.length≤sizeLine) (h:Q (.int z.length) H):rLen K [.str z] H Q:=⟨_,_,rfl,⟨c,rfl⟩,h⟩
theorem rd_lenL {p:Addr} {xs:List V} (c:SqL K H p xs) (h:Q (.int xs.length) H):rLen K [.ref p] H Q:=⟨_,_,rfl, .inl ⟨xs,c,rfl⟩,h⟩
theorem rd_lenT {p:Addr} {xs:List V} (c:SqT K H p xs) (h:Q (.int xs.length) H):rLen K [.ref p] H Q:=⟨_,_,rfl, .inr ⟨xs,c,rfl⟩,h⟩
theorem rd_sum {p:Addr} {ns:List Int} (c:SqL K H p (ns.map V.int)) (h:Q (.int ns.sum) H):rSum K [.ref p] H Q:=⟨p,ns,rfl,c,h⟩
theorem rd_all {p:Addr} {bs:List Bool} (c:SqL K H p (bs.map V.bl)) (h:Q (.bl (bs.all id)) H):rAll K [.ref p] H Q:=⟨p,bs,rfl,c,h⟩
theorem rd_isin {n:String} {ty:Value} {b:Bool} (c:TyOf K H x ty) (e:PySem.W.kitOne K ty (.type n)=some b) (h:Q (.bl b) H):rIsin K [x, .ty n] H Q:=⟨x,n,ty,b,rfl,c,e,h⟩
theorem rd_ixL {p:Addr} {xs:List V} {k:Int} (c:SqL K H p xs) (e:atI xs k=some v) (h:Q v H):rIxL K (.ref p) (.int k) H Q:=⟨p,xs,k,v,rfl,rfl,c,e,h⟩
theorem rd_ixT {p:Addr} {xs:List V} {k:Int} (c:SqT K H p xs) (e:atI xs k=some v) (h:Q v H):rIxT K (.ref p) (.int k) H Q:=⟨p,xs,k,v,rfl,rfl,c,e,h⟩
theorem rd_ixS {z:Str} {k:Int} {c:Nat} (l:z.length≤sizeLine) (e:atI z.cps.toList k=some c) (h:Q (.str ⟨#[c]⟩) H):rIxS (.str z) (.int k) H Q:=⟨z,k,c,rfl,rfl,l,e,h⟩
theorem rd_len {xs:List V} {B:Prop} (c:xs.length≤1000) (h:B):xs.length≤sizeLine∧B:=⟨Nat.le_trans c (by decide),h⟩
end
theorem iteP {p A B:Prop} [Decidable p] (h1:p→A) (h2:¬ p→B):if decide p=true then A else B:=by
  by_cases h:p
  · rw [if_pos (decide_eq_true h)];exact h1 h
  · rw [if_neg (fun q=>h (of_decide_eq_true q))];exact h2 h
theorem iteN {p A B:Prop} [Decidable p] (h1:¬ p→A) (h2:p→B):if (!decide p)=true then A else B:=by
  by_cases h:p
  · rw [decide_eq_true h];exact iteF (h2 h)
  · rw [decide_eq_false h];exact iteT (h1 h)
noncomputable def isLst:Dt→Bool | .lst _=>true | _=>false
noncomputable def isTup:Dt→Bool | .tup _=>true | _=>false
theorem SqS.same {K:PySem.W.Frag} {H H':Hp} {tp:Bool} {p:Addr} {xs:List V} (c:SqS tp K H p xs) (s:Same H H'):SqS tp K H' p xs:=by
  cases tp with
  | false=>exact (show SqL K H' p xs from s.seq c)
  | true=>
    rcases (show SqT K H p xs from c) with (q | ⟨o,q⟩) | q
    · exact (show SqT K H' p xs from .inl (.inl (s _ _ q)))
    · exact (show SqT K H' p xs from .inl (.inr ⟨o,s _ _ q⟩))
    · exact (show SqT K H' p xs from .inr q)
theorem same_new {H:Hp} {p:Addr} {o:HO} (h:H p=none):Same H (upd H p o):=fun b u e=>by rw [upd_ne (ne_of_none e h)];exact e
theorem same_at {H H':Hp} {D:Addr} {o:HO} (s:Same H H') (h:H D=none):Same H (upd H' D o):=fun b u e=>by rw [upd_ne (ne_of_none e h)];exact s b u e
end L2
namespace L2
open PySem PySem.Spec PyProof.Rows
structure SrcOk (J:It) (g:TG) (σ0:St) (H:Hp) (n:Nat) (st:Nat→St):Prop where
  go:∀ i H',i<n→Same H H'→J.go i H'
  stop:∀ H',Same H H'→J.stop n H'
  yld:∀ i H' x H'' (R:St→Hp→Prop),i<n→Same H H'→J.yld i H' x H''→(∀ H3,Same H' H3→R (st i) H3)→g x σ0 H'' R
  kp:∀ i,i<n→Kp σ0 (st i)
section
variable {J:It} {g:TG} {σ0:St} {H:Hp} {n:Nat} {st:Nat→St} {tc:TT} {te:TE} {Q:VK} {D:Addr}
theorem Rp.off {H:Hp} {F:Addr→Prop} {m:Nat} {v:V} {d:Dt} {D:Addr} {xs:List V} {o:HO} (r:Rp H F m v d) (hD:H D=some (.lst xs)) (hF:¬ F D):Rp (L2.upd H D o) F m v d:=by
  refine r.mono (fun a u e q=> ?_) fun _ h=>h
  have n:a≠D:=fun z=>by
    subst z
    rw [hD] at e
    cases e
    exact hF (q _ rfl)
  rw [upd_ne n]
  exact e
theorem comp_data {m:Nat} {p:Nat→Bool} {G:Nat→Dt} (S:SrcOk J g σ0 H n st) (hD:H D=none) (hn:n≤100000)
    (ht:∀ i H' (R:Bool→Hp→Prop),i<n→Same H H'→(∀ H3,Same H' H3→R (p i) H3)→tc (st i) H' R)
    (he:∀ i H' (R:VK),i<n→p i=true→Same H H'→(∀ H3 y,Same H' H3→Rp H3 (FN H') m y (G i)→R y H3)→te (st i) H' R)
    (hd:∀ H' ys,Same H H'→H' D=some (.lst ys)→Rp H' (FN H) (m+1) (.ref D) (.lst (((List.range n).filter p).map G))→Q (.ref D) H'):
    CompW J σ0 g tc te Q H D:=by
  refine ⟨fun i k ys H'=>k=n - i∧i≤n∧Same H H'∧H' D=some (.lst ys)∧ys.length=(((List.range i).filter p).map G).length∧∀ (j:Nat) (y:V) (d:Dt),ys[j]?=some y→(((List.range i).filter p).map G)[j]?=some d→Rp H' (fun a=>H a=none∧a≠D) m y d,
    ⟨_,rfl,Nat.zero_le _,same_at (Same.refl _) hD,upd_same,rfl,fun j y d q=>by simp at q⟩,?_⟩
  rintro i k ys H1 ⟨rfl,hi,s1,hl,len,el⟩
  have bnd:∀ i,(((List.range i).filter p).map G).length≤i:=fun i=>by
    rw [List.length_map]
    exact Nat.le_trans (List.length_filter_le _ _) (by simp)
  by_cases hlt:i<n
  · refine .inr ⟨S.go i H1 hlt s1,fun ys' H'=>Same H H'∧H' D=some (.lst ys')∧ys'.length=(((List.range (i+1)).filter p).map G).length∧∀ (j:Nat) (y:V) (d:Dt),ys'[j]?=some y→(((List.range (i+1)).filter p).map G)[j]?=some d→Rp H' (fun a=>H a=none∧a≠D) m y d,
      fun ys' H' q=>⟨n - (i+1),by omega,rfl,hlt,q⟩,fun x H2 y=> ?_⟩
    refine S.yld i H1 x H2 _ hlt s1 y fun H3 s3=>⟨S.kp i hlt,?_⟩
    refine ht i H3 _ hlt (s1.trans s3) fun H4 s4=> ?_
    have hl4:H4 D=some (.lst ys):=s4 _ _ (s3 _ _ hl)
    have s14:Same H H4:=s1.trans (s3.trans s4)
    cases hp:p i with
    | false=>
      refine iteF ⟨s14,hl4,?_,?_⟩
      · rw [List.range_succ,List.filter_append,List.filter_cons,hp]
        simpa using len
      · intro j y d h1 h2
        have e:((List.range (i+1)).filter p).map G=((List.range i).filter p).map G:=by
          rw [List.range_succ,List.filter_append,List.filter_cons,hp]
          simp
        rw [e] at h2
        exact (el j y d h1 h2).same (s3.trans s4)
    | true=>
      refine iteT ?_
      refine he i H4 _ hlt hp s14 fun H5 y s5 ry=> ?_
      have hl5:H5 D=some (.lst ys):=s5 _ _ hl4
      have e:((List.range (i+1)).filter p).map G=((List.range i).filter p).map G++[G i]:=by
        rw [List.range_succ,List.filter_append,List.filter_cons,hp]
        simp
      refine ⟨hl5,?_,?_,upd_same,?_,?_⟩
      · have:=bnd i
        exact Nat.lt_of_le_of_lt (by omega:ys.length≤100000) (by decide)
      · exact same_at (s14.trans s5) hD
      · rw [e,List.length_append,List.length_append,len]
        rfl
      · intro j z d h1 h2
        rw [e] at h2
        have nF:¬ (H D=none∧D≠D):=fun q=>q.2 rfl
        by_cases hj:j<ys.length
        · rw [List.getElem?_append_left hj] at h1
          rw [List.getElem?_append_left (by omega)] at h2
          exact ((el j z d h1 h2).same (s3.trans (s4.trans s5))).off hl5 nF
        · have ej:j=ys.length:=by
            have:=(List.getElem?_eq_some_iff.mp h1).1
            rw [List.length_append] at this
            have:([y]:List V).length=1:=rfl
            omega
          subst ej
          rw [List.getElem?_append_right (Nat.le_refl _),Nat.sub_self] at h1
          rw [len,List.getElem?_append_right (Nat.le_refl _),Nat.sub_self] at h2
          cases h1
          cases h2
          refine (ry.imp (F':=fun a=>H a=none∧a≠D) fun a ha=>⟨s14.free ha,fun q=> ?_⟩).off hl5 nF
          subst q
          rw [show H4 a=none from ha] at hl4
          cases hl4
  · have e:i=n:=by omega
    subst e
    refine .inl ⟨S.stop H1 s1,hd H1 ys s1 hl (.lst hl hD ?_ len fun j y d h1 h2=>(el j y d h1 h2).imp fun a q=>q.1)⟩
    have:=bnd i
    omega
theorem comp_map {m:Nat} {G:Nat→Dt} (S:SrcOk J g σ0 H n st) (hD:H D=none) (hn:n≤100000)
    (he:∀ i H' (R:VK),i<n→Same H H'→(∀ H3 y,Same H' H3→Rp H3 (FN H') m y (G i)→R y H3)→te (st i) H' R)
    (hd:∀ H' ys,Same H H'→H' D=some (.lst ys)→Rp H' (FN H) (m+1) (.ref D) (.lst ((List.range n).map G))→Q (.ref D) H'):
    CompW J σ0 g tYes te Q H D:=by
  refine comp_data (p:=fun _=>true) (m:=m) (G:=G) S hD hn (fun i H' R _ _ k=>k H' (Same.refl _)) (fun i H' R hi _ s k=>he i H' R hi s k) fun H' ys s hl r=>hd H' ys s hl ?_
  have e:(List.range n).filter (fun _=>true)=List.range n:=by simp
  rw [e] at r
  exact r
variable {K:PySem.W.Frag} {a b:Addr} {xs zs:List V}
theorem src_list (h:SqL K H a xs) (h0:σ0[0]?=some none):SrcOk (Itl K a) (gName 0) σ0 H xs.length (fun i=>σ0.set 0 (some (xs.getD i .non))) where
  go:=fun i H' hi s=>⟨xs,xs[i],s.seq h,by simp [hi]⟩
  stop:=fun H' s=>⟨xs,s.seq h,Nat.le_refl _⟩
  yld:=fun i H' x H'' R hi s y k=>by
    obtain ⟨e,hv⟩:=y
    subst e
    have e:x=xs.getD i .non:=by
      have:=hv xs (s.seq h)
      rw [List.getD_eq_getElem?_getD,this]
      rfl
    subst e
    exact k _ (Same.refl _)
  kp:=fun i hi=>(Kp.refl _).set h0
theorem src_tup (h:SqT K H a xs) (h0:σ0[0]?=some none):SrcOk (Itt K a) (gName 0) σ0 H xs.length (fun i=>σ0.set 0 (some (xs.getD i .non))) where
  go:=fun i H' hi s=>⟨xs,xs[i],(SqS.same (tp:=true) h s),by simp [hi]⟩
  stop:=fun H' s=>⟨xs,(SqS.same (tp:=true) h s),Nat.le_refl _⟩
  yld:=fun i H' x H'' R hi s y k=>by
    obtain ⟨e,hv⟩:=y
    subst e
    have e:x=xs.getD i .non:=by
      have:=hv xs (SqS.same (tp:=true) h s)
      rw [List.getD_eq_getElem?_getD,this]
      rfl
    subst e
    exact k _ (Same.refl _)
  kp:=fun i hi=>(Kp.refl _).set h0
theorem src_range {lo:Int} {n:Nat} (h0:σ0[0]?=some none):SrcOk (Itr lo n) (gName 0) σ0 H n (fun i=>σ0.set 0 (some (.int (lo+i)))) where
  go:=fun i H' hi s=>hi
  stop:=fun H' s=>Nat.le_refl _
  yld:=fun i H' x H'' R hi s y k=>by
    obtain ⟨e,hv⟩:=y
    subst e hv
    exact k _ (Same.refl _)
  kp:=fun i hi=>(Kp.refl _).set h0
theorem src_enum (h:SqL K H a xs) (h0:σ0[0]?=some none) (h1:σ0[1]?=some none):SrcOk (Ite K a) (gTup K 2 (gCons (gName 0) (gCons (gName 1) gNil))) σ0 H xs.length (fun i=>(σ0.set 0 (some (.int i))).set 1 (some (xs.getD i .non))) where
  go:=fun i H' hi s=>⟨xs,xs[i],s.seq h,by simp [hi]⟩
  stop:=fun H' s=>⟨xs,s.seq h,Nat.le_refl _⟩
  yld:=fun i H' x H'' R hi s y k=>by
    obtain ⟨p,v,hp,rfl,rfl,hv⟩:=y
    have e:v=xs.getD i .non:=by
      have:=hv xs (s.seq h)
      rw [List.getD_eq_getElem?_getD,this]
      rfl
    subst e
    exact ⟨p,_,rfl,SqT.of upd_same,rfl,_,_,rfl,_,_,rfl,rfl,k _ (same_new hp)⟩
  kp:=fun i hi=>((Kp.refl _).set h0).set h1
theorem src_zs {t1 t2:Bool} (h:SqS t1 K H a xs) (h':SqS t2 K H b zs) (hl:xs.length=zs.length) (h0:σ0[0]?=some none) (h1:σ0[1]?=some none):
    SrcOk (Izs t1 t2 K a b) (gTup K 2 (gCons (gName 0) (gCons (gName 1) gNil))) σ0 H xs.length (fun i=>(σ0.set 0 (some (xs.getD i .non))).set 1 (some (zs.getD i .non))) where
  go:=fun i H' hi s=>⟨xs,zs,xs[i],zs[i]'(by omega),h.same s,h'.same s,by simp [hi],by simp⟩
  stop:=fun H' s=>⟨xs,zs,h.same s,h'.same s, .inl (Nat.le_refl _)⟩
  yld:=fun i H' x H'' R hi s y k=>by
    obtain ⟨p,v,z,hp,rfl,rfl,hv,hz⟩:=y
    have e:v=xs.getD i .non:=by
      have:=hv xs (h.same s)
      rw [List.getD_eq_getElem?_getD,this]
      rfl
    have e2:z=zs.getD i .non:=by
      have:=hz zs (h'.same s)
      rw [List.getD_eq_getElem?_getD,this]
      rfl
    subst e e2
    exact ⟨p,_,rfl,SqT.of upd_same,rfl,_,_,rfl,_,_,rfl,rfl,k _ (same_new hp)⟩
  kp:=fun i hi=>((Kp.refl _).set h0).set h1
end
theorem map_range_getD {α β:Type} (f:α→β) (xs:List α) (d:α):(List.range xs.length).map (fun i=>f (xs.getD i d))=xs.map f:=by
  refine List.ext_getElem (by simp) fun i h1 h2=> ?_
  have hi:i<xs.length:=by simpa using h2
  simp [List.getD_eq_getElem?_getD,hi]
end L2
namespace L2
open PySem PySem.Spec PyProof.Rows
theorem rs_le (a b c:Int) (hc:c≠0):0≤Builtin.Range.rangeSize a b c∧Builtin.Range.rangeSize a b c≤(b - a).natAbs:=by
  unfold Builtin.Range.rangeSize
  split
  · rename_i h
    split
    · rename_i h2
      have h3:0≤(b - a - 1) / c:=Int.ediv_nonneg (by omega) (by omega)
      have h4:(b - a - 1) / c≤b - a - 1:=Int.ediv_le_self _ (by omega)
      omega
    · omega
  · rename_i h
    split
    · rename_i h2
      have h3:0≤(a - b - 1) / (-c):=Int.ediv_nonneg (by omega) (by omega)
      have h4:(a - b - 1) / (-c)≤a - b - 1:=Int.ediv_le_self _ (by omega)
      omega
    · omega
theorem small_3 {a b c:Int} (ha: -(2 ^ 40)≤a∧a<2 ^ 40) (hb: -(2 ^ 40)≤b∧b<2 ^ 40) (hc: -(2 ^ 20)≤c∧c<2 ^ 20) (h0:c≠0):Builtin.Range.small a b c=true:=by
  have h:=rs_le a b c h0
  unfold Builtin.Range.small
  simp only [Builtin.Range.rangeFitsLong,Bool.and_eq_true,Bool.or_eq_true,decide_eq_true_eq,beq_iff_eq]
  generalize Builtin.Range.rangeSize a b c=n at h
  have hn:(b - a).natAbs<2 ^ 42:=by omega
  refine ⟨⟨⟨⟨by omega,by omega⟩,by omega⟩,by omega⟩, .inr ?_⟩
  split <;> rw [Bool.and_eq_true,decide_eq_true_eq,decide_eq_true_eq] <;> omega
noncomputable def Itc (lo c:Int) (n:Nat):It:=⟨fun i _=>i<n,fun i H x H'=>H'=H∧x= .int (lo+i*c),fun i _=>n≤i⟩
theorem turn_rangeC {P:Program} {w:World} {K:PySem.W.Frag} {tg:Expr} (it:Addr) (lo c:Int) (n:Nat):Turn P w K tg (Itc lo c n) [it] it (fun i h=>IsRangeIter h it (lo+(i:Nat)*c) ((n:Int) - (i:Nat)) c) where
  mem:=by simp
  obj:=fun i h st b hb=>by
    have e:b=it:=by simpa using hb
    subst e
    exact ⟨_,st,fun v z=>by cases (show Data.fields _=Data.cell v from z)⟩
  keep:=fun i h h' st k=>k it (by simp) _ st
  item:=by
    intro X hP hw hK hc i pins s σ H E I hf st hg
    subst hP hw hK
    obtain ⟨f0,f1,f2,f3,f4,f5⟩:=hf it (by simp)
    have W:=Walks.range (prog:=X.prog) (w:=X.w) (I.ok.hd hc) it lo c n
    refine W.item i s _ _ hg st fun v h' tk hv st' kk=> ?_
    obtain ⟨t,rfl⟩:=hv
    have I1:Inv X pins σ H { s with heap:=h',toks:=tk }:=I.turned (fun b o hb e=>kk b o (by simpa using hb) e) f0 f1 f3 f4 f5
    exact ⟨_,rfl,go_of (s:={ s with heap:=h',toks:=tk }) (n:="range_iterator") st' rfl rfl (by decide) ⟨.int (lo+i*c),H,I1,⟨t,rfl⟩,⟨rfl,rfl⟩,st',fun b hb=>(hf b hb).1⟩⟩
  done:=by
    intro X hP hw hK hc i pins s σ H E I hf st hg
    subst hP hw hK
    obtain ⟨f0,f1,f2,f3,f4,f5⟩:=hf it (by simp)
    exact wpAny_pyNext_range_end (I.ok.hd hc) st (by have:n≤i:=hg;omega) fun h' eb=>⟨rfl,I.turned (t':=s.toks) (fun b o hb e=>eb b o hb e) f0 f1 f3 f4 f5⟩
  self:=fun _ _ _ _ _ st h=>wpAny_pyIter_rangeiter st h
section
variable {X:Cx} {tg:Expr}
noncomputable def iRng3 (ta:TA):TI:=fun σ H R=>ta σ H fun vs H1=>∃ i j c:Int,vs=[.int i, .int j, .int c]∧(-(2 ^ 40)≤i∧i<2 ^ 40)∧(-(2 ^ 40)≤j∧j<2 ^ 40)∧(-(2 ^ 20)≤c∧c<2 ^ 20)∧c≠0∧R (Itc i c (Builtin.Range.rangeSize i j c).toNat) H1
theorem pi_range3 {a b c:Expr} {ta:TA} {p pos:Pos} (hg:Gl X "range") (hm:X.mg "range"=none) (ha:PA X [a,b,c] ta) (hs:starEach [a,b,c] X.env=[(false,eval a X.env),(false,eval b X.env),(false,eval c X.env)]:=by rfl)
    (hs2:starEach [b,c] X.env=[(false,eval b X.env),(false,eval c X.env)]:=by rfl):PI X tg (.Call (.Name "range" p) [a,b,c] [] pos) (iRng3 ta):=by
  intro pins s σ H R I h
  refine Call_ (ld_blt I hg hm boot_range (PyProof.Rows.callWith_type1 (thn (ha pos pins s σ H _ I h) fun us s1 ⟨vs,H1,I1,r1,q1⟩=> ?_) (by rw [hs,hs2]) (by rw [hs2];rfl)))
  obtain ⟨i,j,k,e,h1,h2,h3,h0,q⟩:=q1
  subst e
  cases r1 with
  | cons r rr=>
    cases rr with
    | cons r' rr=>
      cases rr with
      | cons r'' rr=>
        cases rr
        obtain ⟨t,rfl⟩:=r
        obtain ⟨t',rfl⟩:=r'
        obtain ⟨t'',rfl⟩:=r''
        refine call_range_3 h0 ?_ (.inl (PyProof.noPylong_small (by omega)))
        refine wpAny_pyIter_range (IsRange.new ..) (small_3 h1 h2 h3 h0) ?_
        have I2:Inv X pins σ H1 { s1 with heap:=s1.heap.push { cls:= .type "range",data:= .fields #[.int i t, .int j t', .int k t''] },toks:=s1.toks }:=I1.kept fun b o e=>Heap.get?_push_of_some _ e
        refine ⟨(s1.heap.push { cls:= .type "range",data:= .fields #[.int i t, .int j t', .int k t''] }).objs.size,[(s1.heap.push { cls:= .type "range",data:= .fields #[.int i t, .int j t', .int k t''] }).objs.size],_,_,H1,rfl,
          I2.kept (t':=s1.toks) fun b o e=>Heap.get?_push_of_some _ e,turn_rangeC _ i k (Builtin.Range.rangeSize i j k).toNat,?_,fun b hb=> ?_,q⟩
        · have e1:i+((0:Nat):Int)*k=i:=by simp
          have e2:(((Builtin.Range.rangeSize i j k).toNat:Nat):Int) - ((0:Nat):Int)=Builtin.Range.rangeSize i j k:=by have:=(rs_le i j k h0).1;omega
          show IsRangeIter _ _ (i+((0:Nat):Int)*k) ((((Builtin.Range.rangeSize i j k).toNat:Nat):Int) - ((0:Nat):Int)) k
          rw [e1,e2]
          exact Heap.get?_push_size _ rfl
        · have e:b=(s1.heap.push { cls:= .type "range",data:= .fields #[.int i t, .int j t', .int k t''] }).objs.size:=by simpa using hb
          subst e
          exact I2.fpOk (Nat.le_refl _) (I2.hok.fresh (Nat.le_refl _))
theorem src_rangeC {lo c:Int} {n:Nat} {σ0:St} {H:Hp} (h0:σ0[0]?=some none):SrcOk (Itc lo c n) (gName 0) σ0 H n (fun i=>σ0.set 0 (some (.int (lo+i*c)))) where
  go:=fun i H' hi s=>hi
  stop:=fun H' s=>Nat.le_refl _
  yld:=fun i H' x H'' R hi s y k=>by
    obtain ⟨e,hv⟩:=y
    subst e hv
    exact k _ (Same.refl _)
  kp:=fun i hi=>(Kp.refl _).set h0
noncomputable def rIntB:List V→Hp→VK→Prop:=fun xs H Q=>∃ b:Bool,xs=[.bl b]∧Q (.int (if b=true then 1 else 0)) H
end
end L2
namespace L2
open PySem PySem.Spec PyProof.Rows
theorem k_intB {X:Cx}:CallR X (.type "int") rIntB:=by
  intro pins s σ H xs us Q I r h
  obtain ⟨b,rfl,q⟩:=h
  exact call_int1 pins s σ H _ us Q I r (.inr ⟨b,rfl,q⟩)
end L2
namespace L2
open PySem PySem.Spec PyProof.Rows
section
variable {X:Cx} {K:PySem.W.Frag} {e st:Expr} {te ts:TE} {pos p2:Pos}
end
end L2
namespace MM
theorem snoc_ind {α:Type} {p:List α→Prop} (h0:p []) (h1:∀ l a,p l→p (l++[a])):∀ l,p l:=fun l=>by
  have h:∀ r:List α,p r.reverse:=fun r=>by
    induction r with
    | nil=>exact h0
    | cons a r ih=>rw [List.reverse_cons];exact h1 _ _ ih
  have:=h l.reverse
  rwa [List.reverse_reverse] at this
theorem or_add_and (a:Nat):∀ b:Nat,(a ||| b)+(a &&& b)=a+b:=by
  induction a using Nat.strongRecOn with
  | ind a ih=>
    intro b
    by_cases h:a=0
    · subst h;simp
    · have ih':=ih (a / 2) (by omega) (b / 2)
      have e1:(a ||| b)=2*((a ||| b) / 2)+(a ||| b)%2:=by omega
      have e2:(a &&& b)=2*((a &&& b) / 2)+(a &&& b)%2:=by omega
      have d1:(a ||| b) / 2=a / 2 ||| b / 2:=by simpa using Nat.or_div_two (a:=a) (b:=b)
      have d2:(a &&& b) / 2=a / 2 &&& b / 2:=by simpa using Nat.and_div_two (a:=a) (b:=b)
      have m1:(a ||| b)%2+(a &&& b)%2=a%2+b%2:=by
        have z:∀ x:Nat,x%2=(x.testBit 0).toNat:=fun x=>by rw [Nat.toNat_testBit];simp
        rw [z (a ||| b),z (a &&& b),z a,z b,Nat.testBit_or,Nat.testBit_and]
        cases a.testBit 0 <;> cases b.testBit 0 <;> rfl
      rw [d1] at e1
      rw [d2] at e2
      omega
theorem xor_eq (a b:Nat):(a ^^^ b)+(a &&& b)=(a ||| b):=by
  have h1:=or_add_and (a ^^^ b) (a &&& b)
  have e1:((a ^^^ b) ||| (a &&& b))=(a ||| b):=by
    refine Nat.eq_of_testBit_eq fun i=> ?_
    simp only [Nat.testBit_or,Nat.testBit_xor,Nat.testBit_and]
    cases a.testBit i <;> cases b.testBit i <;> rfl
  have e2:((a ^^^ b) &&& (a &&& b))=0:=by
    refine Nat.eq_of_testBit_eq fun i=> ?_
    simp only [Nat.testBit_and,Nat.testBit_xor,Nat.zero_testBit]
    cases a.testBit i <;> cases b.testBit i <;> rfl
  rw [e1,e2] at h1
  omega
noncomputable def ofB (f:Nat→Bool):Nat→Nat
  | 0=>0
  | w+1=>ofB f w+(f w).toNat*2 ^ w
theorem ofB_lt (f:Nat→Bool):∀ w,ofB f w<2 ^ w
  | 0=>by simp [ofB]
  | w+1=>by
    have:=ofB_lt f w
    unfold ofB
    rw [Nat.pow_succ]
    cases f w <;> simp <;> omega
theorem ofB_bit (f:Nat→Bool):∀ w i,(ofB f w).testBit i=(decide (i<w)&&f i)
  | 0,i=>by simp [ofB]
  | w+1,i=>by
    have hl:=ofB_lt f w
    unfold ofB
    have e:ofB f w+(f w).toNat*2 ^ w=2 ^ w*(f w).toNat+ofB f w:=by rw [Nat.mul_comm];omega
    rw [e,Nat.testBit_two_pow_mul_add _ hl]
    by_cases h:i<w
    · rw [if_pos h,ofB_bit f w i]
      simp [h,Nat.lt_succ_of_lt h]
    · rw [if_neg h]
      by_cases h2:i=w
      · subst h2
        cases f i <;> simp
      · have h3:¬ i<w+1:=by omega
        have h4:i - w≠0:=by omega
        have h5:(1:Nat).testBit (i - w)=false:=by
          obtain ⟨d,hd⟩:∃ d,i - w=d+1:=⟨i - w - 1,by omega⟩
          rw [hd,Nat.testBit_succ]
          simp
        cases f w
        · simp [h3]
        · simp only [Bool.toNat_true,h5,h3,decide_false,Bool.false_and]
theorem ofB_self (m w:Nat) (h:m<2 ^ w):ofB m.testBit w=m:=by
  refine Nat.eq_of_testBit_eq fun i=> ?_
  rw [ofB_bit]
  by_cases hi:i<w
  · simp [hi]
  · have:m.testBit i=false:=Nat.testBit_lt_two_pow (Nat.lt_of_lt_of_le h (Nat.pow_le_pow_right (by decide) (by omega)))
    simp [hi,this]
theorem ofB_congr {f g:Nat→Bool} {w:Nat} (h:∀ i,i<w→f i=g i):ofB f w=ofB g w:=by
  refine Nat.eq_of_testBit_eq fun i=> ?_
  rw [ofB_bit,ofB_bit]
  by_cases hi:i<w
  · simp [hi,h i hi]
  · simp [hi]
theorem eq_ofB {m w:Nat} {f:Nat→Bool} (h:m<2 ^ w) (b:∀ i,i<w→m.testBit i=f i):m=ofB f w:=by
  rw [← ofB_self m w h]
  exact ofB_congr b
theorem bit_div (m e:Nat):m / 2 ^ e%2=(m.testBit e).toNat:=by
  rw [Nat.testBit_eq_decide_div_mod_eq]
  have:m / 2 ^ e%2<2:=Nat.mod_lt _ (by decide)
  by_cases h:m / 2 ^ e%2=1
  · simp [h]
  · have:m / 2 ^ e%2=0:=by omega
    simp [this]
noncomputable def mOf (ns:List Nat):Nat:=ns.foldl (fun m n=>m ||| 2 ^ (n - 1)) 0
theorem mOf_snoc (ns:List Nat) (n:Nat):mOf (ns++[n])=mOf ns ||| 2 ^ (n - 1):=by unfold mOf;rw [List.foldl_append];rfl
theorem mOf_bit (ns:List Nat) (i:Nat):(mOf ns).testBit i=ns.any fun n=>decide (n - 1=i):=by
  refine snoc_ind (p:=fun ns=>(mOf ns).testBit i=ns.any fun n=>decide (n - 1=i)) (by simp [mOf]) (fun l a ih=> ?_) ns
  · rw [mOf_snoc,Nat.testBit_or,ih,List.any_append,Nat.testBit_two_pow]
    simp
noncomputable def uOf (ms:List Nat):Nat:=ms.foldl (fun m n=>m ||| n) 0
theorem uOf_snoc (ns:List Nat) (n:Nat):uOf (ns++[n])=uOf ns ||| n:=by unfold uOf;rw [List.foldl_append];rfl
theorem uOf_bit (ns:List Nat) (i:Nat):(uOf ns).testBit i=ns.any fun n=>n.testBit i:=by
  refine snoc_ind (p:=fun ns=>(uOf ns).testBit i=ns.any fun n=>n.testBit i) (by simp [uOf]) (fun l a ih=> ?_) ns
  rw [uOf_snoc,Nat.testBit_or,ih,List.any_append];simp
noncomputable def bits (m:Nat):Nat:=if m=0 then 0 else m.log2+1
theorem bits_lt (m:Nat):m<2 ^ bits m:=by
  unfold bits
  split
  · subst_vars;decide
  · exact Nat.lt_log2_self
theorem bits_le {m w:Nat} (h:m<2 ^ w):bits m≤w:=by
  unfold bits
  split
  · exact Nat.zero_le _
  · rename_i h0
    exact (Nat.log2_lt h0).mpr h
noncomputable def nOf (m:Nat):List Nat:=((List.range (bits m)).filter m.testBit).map (· + 1)
theorem nOf_mem (m n:Nat):n∈nOf m↔1≤n∧m.testBit (n - 1)=true:=by
  unfold nOf
  simp only [List.mem_map,List.mem_filter,List.mem_range]
  constructor
  · rintro ⟨k,⟨_,h⟩,rfl⟩
    exact ⟨by omega,by simpa using h⟩
  · rintro ⟨h1,h2⟩
    refine ⟨n - 1,⟨?_,h2⟩,by omega⟩
    rcases Nat.lt_or_ge (n - 1) (bits m) with q | q
    · exact q
    · rw [Nat.testBit_lt_two_pow (Nat.lt_of_lt_of_le (bits_lt m) (Nat.pow_le_pow_right (by decide) q))] at h2
      cases h2
theorem nOf_wide {m w:Nat} (h:m<2 ^ w):nOf m=((List.range w).filter m.testBit).map (· + 1):=by
  unfold nOf
  have hb:=bits_le h
  obtain ⟨d,rfl⟩:∃ d,w=bits m+d:=⟨w - bits m,by omega⟩
  congr 1
  rw [List.range_add,List.filter_append]
  have e:((List.range d).map (bits m+ ·)).filter m.testBit=[]:=by
    rw [List.filter_eq_nil_iff]
    intro x hx
    obtain ⟨k,_,rfl⟩:=List.mem_map.mp hx
    rw [Nat.testBit_lt_two_pow (Nat.lt_of_lt_of_le (bits_lt m) (Nat.pow_le_pow_right (by decide) (Nat.le_add_right _ _)))]
    simp
  rw [e,List.append_nil]
theorem nOf_len {m w:Nat} (h:m<2 ^ w):(nOf m).length≤w:=by
  rw [nOf_wide h,List.length_map]
  exact Nat.le_trans (List.length_filter_le _ _) (by simp)
end MM
namespace L2
open PySem PySem.Spec PyProof.Rows
section
variable {X:Cx}
theorem pe_gI {x:Str} {i:Int} {pos:Pos} (h:∃ t,X.mg x=some (.int i t)) (hg:Gl X x:=by rfl) (hd:(x == ("__debug__":Str))=false:=by decide):PE X (.Name x pos) (tC (.int i)):=by
  obtain ⟨t,e⟩:=h
  exact pe_glob hg e ⟨t,rfl⟩ hd
theorem pe_gS {x z:Str} {pos:Pos} (h:∃ t,X.mg x=some (.str z t)) (hg:Gl X x:=by rfl) (hd:(x == ("__debug__":Str))=false:=by decide):PE X (.Name x pos) (tC (.str z)):=by
  obtain ⟨t,e⟩:=h
  exact pe_glob hg e ⟨t,rfl⟩ hd
end
section
variable {H:Hp} {Q:VK} {σ:St} {td ty tv:TE} {D:Ends} {a:Addr} {kvs:List (Key × V)}
end
section
variable {H:Hp} {Q:VK} {σ:St} {K:PySem.W.Frag} {to:TE} {t:TA} {r:V→List V→Hp→VK→Prop} {T:String} {l p q:Addr} {xs ys:List V} {y:V}
theorem rd_bm0 (h:to σ H fun x H1=>tyV K T x H1∧r x [] H1 Q):tBM0 K T r to σ H Q:=h
theorem rd_bm (h:to σ H fun x H1=>tyV K T x H1∧t σ H1 fun xs H2=>r x xs H2 Q):tBM K T r to t σ H Q:=h
theorem tyL {B:Prop} (c:SqL K H l xs) (h:B):tyV K "list" (.ref l) H∧B:=⟨.inl ⟨rfl,xs,c⟩,h⟩
theorem tyI {B:Prop} {i:Int} (h:B):tyV K "int" (.int i) H∧B:=⟨rfl,h⟩
theorem rd_app (c:H l=some (.lst xs)) (b:xs.length<16777216) (h:Q .non (upd H l (.lst (xs++[y])))):rAppend (.ref l) [y] H Q:=⟨l,xs,y,rfl,rfl,c,by rw [sizeLine_eq];exact b,h⟩
theorem rd_ext (c:H l=some (.lst xs)) (d:H p=some (.lst ys)) (b:xs.length+ys.length≤16777216) (h:Q .non (upd H l (.lst (xs++ys)))):rExtend (.ref l) [.ref p] H Q:=⟨l,p,xs,ys,rfl,rfl,c,d,by rw [sizeLine_eq];exact b,h⟩
theorem rd_cat (c:SqL K H l xs) (d:SqL K H p ys) (b:xs.length+ys.length≤16777216) (h:∀ q,H q=none→Q (.ref q) (upd H q (.lst (xs++ys)))):rCatS K (.ref l) (.ref p) H Q:=⟨l,p,xs,ys,rfl,rfl,c,d,by rw [sizeLine_eq];exact b,h⟩
theorem rd_rep {k:Int} (c:H l=some (.lst xs)) (b1:0≤k) (b2:k≤100000) (b3:xs.length≤100) (h:∀ q,H q=none→Q (.ref q) (upd H q (.lst (List.replicate k.toNat xs).flatten))):rRep (.ref l) (.int k) H Q:=
  ⟨l,k,xs,rfl,rfl,c,by omega,by omega,by
    rw [sizeLine_eq]
    have h1:k.toNat≤100000:=by omega
    exact Nat.le_trans (Nat.mul_le_mul b3 h1) (by decide),h⟩
theorem rd_eqLI {as bs:List Int} (c:SqL K H l (as.map V.int)) (d:SqL K H p (bs.map V.int)) (h:Q (.bl (decide (as=bs))) H):rEqL K false (.ref l) (.ref p) H Q:=
  ⟨l,p,_,_,rfl,rfl,c,d,flat_int as,flat_int bs,by rw [eqVs_int];exact h⟩
theorem rd_listOf {z:Addr} (c:SqL K H z xs) (h:∀ q,H q=none→Q (.ref q) (upd H q (.lst xs))):rListOf K [.ref z] H Q:=⟨z,xs,rfl, .inl c,h⟩
theorem rd_listOfT {z:Addr} (c:SqT K H z xs) (h:∀ q,H q=none→Q (.ref q) (upd H q (.lst xs))):rListOf K [.ref z] H Q:=⟨z,xs,rfl, .inr c,h⟩
theorem rd_tupOf {z:Addr} (c:SqL K H z xs) (h:∀ q,H q=none→Q (.ref q) (upd H q (.tup xs))):rTupleOf K [.ref z] H Q:=⟨z,xs,rfl, .inl ⟨c,h⟩⟩
end
end L2
namespace L2
open PySem
open Sem (wp)
open AutoSeq1 (wpAny_loadPart')
section
variable {prog:Program} {w:World} {A:Around} {E:Value→Shared→Prop} {s:Shared}
theorem typeCall_kw {T newId:String} {Bn:Builtin} {v:Value} {x:Str} {u:Value} {Q:Value→Shared→Prop} (ft:TypeCalled T newId "object.__init__") (hne:(some newId != some "object.__new__")=true)
    (hct:checkTypeCall T ⟨[v],[(x,u)]⟩=pure ()) (hcn:checkBuiltinCall newId ⟨[.type T,v],[(x,u)]⟩=pure ()) (hok:∀ obj,argsOk "object.__init__" ⟨[obj,v],[(x,u)]⟩) (entryN:entryFor table newId=some Bn)
    (g:wpAny (model prog w) A.in1.in1 (Bn ⟨[.type T,v],[(x,u)]⟩) (fun fin s1=>∃ obj,fin= .done (.ret obj)∧s1.TypeIs obj T∧Q obj s1) E s):wpAny (model prog w) A (call (.type T) [v] [(x,u)]) Q E s:=by
  obtain ⟨c,tl,hmro⟩:=ft.mro
  have hmade:=ft.made
  have hsub:=ft.sub
  refine wpAny_call (codeAny_of_tree ?_)
  show wpAny _ _ (callAny (.type T) _) _ _ _
  refine wpAny_pure ⟨Code.quiet_builtin _ (by decide +kernel),codeAny_builtin F.entry_type_call ?_⟩
  rw [Around.under_plain (weight_type_call_type T [v] [(x,u)]) (units_type_call_type T [v] [(x,u)])]
  have h1:=ft.notType
  have h2:=ft.canCreate
  repeat (any_goals (first | assumption | wp_step))
  refine codeAny_call_builtin ft.plain entryN (wpAny_of_eq hcn (wpAny_mono g (fun fin s1 q=> ?_) fun _ _ q=>q))
  obtain ⟨obj,rfl,hT,q⟩:=q
  have hli:=ft.init.lookup
  have hbi:=ft.init.bind obj
  show wpAny _ _ _ _ _ _
  repeat (any_goals (first | assumption | wp_step))
  refine codeAny_call_builtin ft.init.plain F.entry_object_init (ft.init.check _ _ _ _ _ _ _ _ hT (hok obj) ?_)
  repeat (any_goals (first | assumption | wp_step))
  trace_state
theorem new_enum_kw {v:Value} {t:Tok} {Q:Value→Shared→Prop}
    (h:wpAny (model prog w) A (pyIter v) (fun itv s1=>Q (.ref s1.heap.objs.size) { s1 with heap:=s1.heap.push { cls:= .type "enumerate",data:= .fields #[.none, .bool false,itv,rawInt 1, .none, .none] } }) E s):
    wpAny (model prog w) A (Builtin.«enumerate.__new__» ⟨[.type "enumerate",v],[("start", .int 1 t)]⟩) (fun fin s1=>∃ obj,fin= .done (.ret obj)∧Q obj s1) E s:=by
  have hsub:=sub_enumerate
  have hit:∀ {R:Value→Shared→Prop},(∀ itv s1,Q (.ref s1.heap.objs.size) { s1 with heap:=s1.heap.push { cls:= .type "enumerate",data:= .fields #[.none, .bool false,itv,rawInt 1, .none, .none] } }→R itv s1)→wpAny (model prog w) A (pyIter v) R E s:=fun k=>wpAny_mono h k fun _ _ q=>q
  unfold Builtin.«enumerate.__new__»
  wp_walk
  refine wpAny_stack_any fun st=>wpAny_pure ?_
  split
  · rename_i c _ _ _ _ _
    cases (c == Value.type "enumerate")
    · wp_walk using hit
      intro itv s1 q
      wp_walk
      exact ⟨_,rfl,q⟩
    · wp_walk using hit
      intro itv s1 q
      wp_walk
      exact ⟨_,rfl,q⟩
  · wp_walk using hit
    intro itv s1 q
    wp_walk
    exact ⟨_,rfl,q⟩
theorem call_enumS {v:Value} {t:Tok} {Q:Value→Shared→Prop}
    (h:wpAny (model prog w) A.in1.in1 (pyIter v) (fun itv s1=>∃ it,itv= .ref it∧∀ h',IsEnum h' s1.heap.objs.size it 1 .none→(∀ b o,s1.heap.get? b=some o→h'.get? b=some o)→h'.objs.size=s1.heap.objs.size+1→Q (.ref s1.heap.objs.size) { s1 with heap:=h' }) E s):
    wpAny (model prog w) A (call (.type "enumerate") [v] [("start", .int 1 t)]) Q E s:=by
  refine typeCall_kw F.called_enumerate (by decide) (by kernel_rfl) (by kernel_rfl) (fun obj=>by unfold argsOk;kernel_rfl) F.entry_enumerate_new (new_enum_kw (wpAny_mono h (fun itv s1 q=> ?_) fun _ _ q=>q))
  obtain ⟨it,rfl,q⟩:=q
  refine ⟨⟨_,Heap.get?_push_size _ rfl,rfl⟩,q _ (Heap.get?_push_size _ rfl) (fun b o e=>Heap.get?_push_of_some _ e) (Heap.size_push ..)⟩
end
theorem shiftD {prog:Program} {w:World} {A:Around} {it:Addr} {fp:List Addr} {n:Nat} {Pv:Nat→Value→Prop} {St:Nat→Heap→Prop} (k:Nat) (D:Draws prog w A it fp n Pv St):
    Draws prog w A it fp (n+k) (fun i v=>∃ j,i=j+k∧Pv j v) (fun i h=>∃ j,i=j+k∧St j h) where
  live:=fun i h ⟨j,_,st⟩=>D.live j h st
  frame:=fun i h h' ⟨j,e,st⟩ q=>⟨j,e,D.frame j h h' st q⟩
  item:=fun i s Q E hi ⟨j,e,st⟩ hQ=>D.item j s Q E (by omega) st fun x h' tk p st' sb=>hQ x h' tk ⟨j,e,p⟩ ⟨j+1,by omega,st'⟩ sb
  done:=fun s Q E ⟨j,e,st⟩ hE=>D.done s Q E (by
    have q:j=n:=by omega
    rw [q] at st
    exact st) hE
theorem kwCall_type {M:Model} {A:Around} {E:Value→Shared→Prop} {s:Shared} {pos:Pos} {T:String} {args:List (Bool × Sem Value)} {kws:List (Option Str × Sem Value)} {Q:Value→Shared→Prop}
    (hp:args.any (·.1)=false) (hk:kws.any (·.1.isNone)=false) (h:wpAny M A (evalArgs (.type T) true args kws) (fun a s1=>wpAny M A (call (.type T) a.pos a.kw) Q E s1) E s):wpAny M A (callWith pos (.type T) [] args kws) Q E s:=by
  unfold callWith
  refine wpAny_bind (wpAny_holding (wpAny_mono h (fun a s1 h1=>wpAny_bind (wpAny_standAt ?_)) fun _ _ q=>q))
  simp only [hp,hk,Bool.or_false]
  refine wpAny_bind (wpAny_pure ?_)
  refine wpAny_bind (wpAny_mono h1 (fun r s2 hr=> ?_) fun _ _ q=>q)
  exact wpAny_bind (wpAny_holding (wpAny_point (wpAny_pure hr)))
end L2
namespace L2
open PySem PySem.Spec PyProof.Rows
theorem drawsS {prog:Program} {w:World} {A:Around} (hh:A.handled=none) (tp:Bool) (it l:Addr) (hne:l≠it) (items:Array Value):
    Draws prog w A it [it,l] items.size (fun i v=>items[i]?=some v) (fun i h=>SrcIt tp h it l i∧SrcSq tp h l items) where
  live:=fun _ _ st=>let ⟨o,e,_⟩:=srcIt_obj st.1;⟨o,e⟩
  frame:=fun _ _ _ st hk=>⟨srcIt_at st.1 fun o e=>hk it (by simp) o e,srcSq_at st.2 fun o e=>hk l (by simp) o e⟩
  item:=fun i s Q E hi st hQ=>src_item st.1 st.2 (x:=items[i]) (by simp [hi]) fun h' hit sb=>hQ _ h' s.toks (by simp [hi]) ⟨hit,srcSq_at st.2 fun o e=>(sb.2 l hne).trans e⟩ sb
  done:=fun s Q E st hE=>src_end hh st.1 st.2 (by simp) hE
noncomputable def IteS (tp:Bool) (K:PySem.W.Frag) (a:Addr):It:=
  ⟨fun i H=>∃ xs x,SqS tp K H a xs∧xs[i]?=some x,fun i H v H'=>∃ p x,H p=none∧v= .ref p∧H'=upd H p (.tup [.int ((i+1:Nat):Int),x])∧∀ xs,SqS tp K H a xs→xs[i]?=some x,fun i H=>∃ xs,SqS tp K H a xs∧xs.length≤i⟩
theorem turn_enumS {P:Program} {w:World} {K:PySem.W.Frag} {elts:List Expr} {k:Nat} {pos:Pos} (tp:Bool) (a e it:Addr) (hne:e≠it):
    Turn P w K (.Tuple elts k pos) (IteS tp K a) [e,it] e (fun i h=>(∃ old,IsEnum h e it ((i+1:Nat):Int) old)∧SrcIt tp h it a i) where
  mem:=by simp
  obj:=fun i h st b hb=>by
    obtain ⟨⟨old,he⟩,hi⟩:=st
    obtain ⟨o,eo,d⟩:=srcIt_obj hi
    rcases List.mem_cons.mp hb with z | z
    · subst z
      exact ⟨_,he,fun v z=>by cases (show Data.fields _=Data.cell v from z)⟩
    · have z:b=it:=by simpa using z
      subst z
      exact ⟨o,eo,fun v z=>by rw [d] at z;cases z⟩
  keep:=fun i h h' st kp=>by
    obtain ⟨⟨old,he⟩,hi⟩:=st
    exact ⟨⟨old,kp e (by simp) _ he⟩,srcIt_at hi fun o z=>kp it (by simp) o z⟩
  item:=by
    intro X hP hw hK hc i pins s σ H E I hf st hg
    subst hP hw hK
    obtain ⟨xs,x,hq,hx⟩:=hg
    obtain ⟨its,rv,p⟩:=sqS_src I hq
    obtain ⟨u,hu,ru⟩:=rv.get hx
    obtain ⟨⟨old,he⟩,hi⟩:=st
    obtain ⟨oi,ei,di⟩:=srcIt_obj hi
    obtain ⟨oa,na,ea,da⟩:=srcSq_obj p
    have hel:e<s.heap.objs.size:=Heap.lt_size he
    have hil:it<s.heap.objs.size:=Heap.lt_size ei
    have nia:a≠it:=fun z=>by
      subst z
      rw [ei] at ea
      cases ea
      rw [di] at da
      cases da
    have nea:e≠a:=fun z=>by
      subst z
      rw [show s.heap.get? e=_ from he] at ea
      cases ea
      cases (show Data.fields _=Data.seq _ _ from da)
    have hlt:i<its.toArray.size:=by
      have:=(List.getElem?_eq_some_iff.mp hu).1
      simpa using this
    have D:=shiftD 1 (drawsS (prog:=X.prog) (w:=X.w) (A:=X.A.in1) (I.ok.hd hc) tp it a nia its.toArray)
    refine wpAny_pyNext_enum_itemD (i:=i+1) D he ⟨i,rfl,hi,p⟩ (by omega) hne (by simp [hne,nea]) fun v h' tk pv ho st' hT hsz hk=> ?_
    obtain ⟨j,ej,ev⟩:=pv
    obtain ⟨j2,ej2,hi',p'⟩:=st'
    have ej:j=i:=by omega
    have ej2:j2=i+1:=by omega
    subst ej ej2
    have ev:v=u:=by
      rw [show its.toArray[j]?=some u by simpa using hu] at ev
      exact (Option.some.inj ev).symm
    subst ev
    have I0:=I.laid (h':=s.heap.push { cls:= .type "tuple",data:= .seq #[.int ((j+1:Nat):Int) tk,v] }) (a:=s.heap.objs.size) (o:= .tup [.int ((j+1:Nat):Int),x]) (t':=tk+1) (fun _ _ q=>Heap.get?_push_of_some _ q) (Nat.le_refl _)
      ⟨(by show 2≤sizeLine;decide),[.int ((j+1:Nat):Int) tk,v], .cons ⟨_,rfl⟩ (.cons ru .nil),⟨_,Heap.get?_push_size _ rfl,rfl,_,rfl⟩⟩
    have f0:∀ b∈[e,it],FpOk X pins (upd H s.heap.objs.size (.tup [.int ((j+1:Nat):Int),x])) b:=fun b hb=>fp_upd (hf b hb) (by
      rcases List.mem_cons.mp hb with z | z
      · rw [z];exact Nat.ne_of_lt hel
      · rw [show b=it by simpa using z];exact Nat.ne_of_lt hil)
    have I1:=Inv.turnedL (t':=tk+1) (h':=h') [e,it] I0 f0 (fun b o hb z=>by
      have hb1:b≠e:=fun q=>hb (by simp [q])
      have hb2:b≠it:=fun q=>hb (by simp [q])
      rcases Heap.get?_push_cases (show (s.heap.push { cls:= .type "tuple",data:= .seq #[.int ((j+1:Nat):Int) tk,v] }).get? b=some o from z) with ⟨q1,q2⟩ | q
      · rw [q1,q2];exact hT
      · exact hk b o hb1 hb2 q)
    refine ⟨.ref s.heap.objs.size,rfl,wpAny_letOwnedTupleGo_enum (s:={ s with heap:=h',toks:=tk+1 }) ho fun h2 he2 sb=> ?_⟩
    exact ⟨.ref s.heap.objs.size,_,Inv.turnedL (t':=tk+1) (h':=h2) [e,it] I1 f0 (fun b o hb z=>(sb.2 b fun q=>hb (by simp [q])).trans z),rfl,⟨_,x,I.fresh,rfl,rfl,fun ys hy=>by rw [sqS_inj I hy hq];exact hx⟩,
      ⟨⟨v,by simpa using he2⟩,srcIt_at hi' fun o z=>(sb.2 it hne.symm).trans z⟩,fun b hb=>(f0 b hb).1⟩
  done:=by
    intro X hP hw hK hc i pins s σ H E I hf st hg
    subst hP hw hK
    obtain ⟨xs,hq,hx⟩:=hg
    obtain ⟨its,rv,p⟩:=sqS_src I hq
    obtain ⟨⟨old,he⟩,hi⟩:=st
    obtain ⟨oi,ei,di⟩:=srcIt_obj hi
    obtain ⟨oa,na,ea,da⟩:=srcSq_obj p
    have hT:s.TypeIs (.ref e) "enumerate":=⟨_,he,rfl⟩
    have hl:=rv.length
    unfold pyNext
    refine wpAny_bind (wpAny_attempt (wpAny_callSpecial?_slot (name:=Str.ofString "__next__") hT F.slot_enumerate_next (wpAny_call_entry F.slot_enumerate_next hT F.entry_enumerate_next ?_ (F.args_enumerate_next_1 _))))
    show wpAny _ _ (field (.ref e) 2 >>= _) _ _ _
    refine wpAny_bind (wpAny_field he rfl (x:= .ref it) rfl ?_)
    refine wpAny_bind (src_end (A:=X.A.in1) (I.ok.hd hc) hi p (by simp;omega) fun h' x eb hx'=> ?_)
    obtain ⟨o,ho,hc2⟩:=hx'
    exact wpAny_bind (wpAny_isInstance (T:="StopIteration") (b:=true) ⟨o,ho,hc2⟩ isSubtype_stop (wpAny_pure ⟨rfl,I.turnedL (t':=s.toks) [e,it] hf fun b o hb z=>eb b o (fun q=>hb (by simp [q])) z⟩))
  self:=fun _ _ _ _ _ st h=>by
    obtain ⟨⟨old,he⟩,_⟩:=st
    exact wpAny_pyIter_enum he h
section
variable {X:Cx} {elts:List Expr} {k:Nat} {tpos:Pos} {K:PySem.W.Frag}
noncomputable def iEnumS (K:PySem.W.Frag) (ta:TA):TI:=fun σ H R=>ta σ H fun vs H1=>∃ tp a,vs=[.ref a]∧(∃ xs,SqS tp K H1 a xs)∧R (IteS tp K a) H1
theorem pi_enumS {l:Expr} {ta:TA} {p pos kp cp:Pos} {cj:Nat} (hg:Gl X "enumerate") (hm:X.mg "enumerate"=none) (ha:PA X [l] ta) (hK:X.K=K:=by rfl) (hs:starEach [l] X.env=[(false,eval l X.env)]:=by rfl):
    PI X (.Tuple elts k tpos) (.Call (.Name "enumerate" p) [l] [⟨some "start", .Constant (.int 1) cj cp,kp⟩] pos) (iEnumS K ta):=by
  subst hK
  intro pins s σ H R I h
  refine wpAny_Call_Name_kw (ld_blt I hg hm boot_enum (kwCall_type (by rw [hs];rfl) rfl (PyProof.Rows.evalArgs_kw2 rfl ?_ (by rw [hs];rfl))))
  refine thn (ha pos pins s σ H _ I h) fun us s1 ⟨vs,H1,I1,r1,q1⟩=>PyProof.Rows.kwAll_cons ?_
  refine pe_int pins s1 σ H1 (fun v H2=>v= .int 1∧H2=H1) I1 ⟨rfl,rfl⟩ |> fun z=>thn z fun u s2 ⟨v,H2,I2,r2,ev,eh⟩=> ?_
  subst ev eh
  obtain ⟨t,rfl⟩:=r2
  refine PyProof.Rows.kwAll_nil ?_
  obtain ⟨tp,a,e,⟨xs,hq⟩,q⟩:=q1
  subst e
  cases r1 with
  | cons r rr=>
    cases rr
    cases r
    obtain ⟨its,rv,pl⟩:=sqS_src I2 hq
    refine call_enumS ?_
    refine src_iter pl ⟨_,rfl,fun h' he hk hsz=> ?_⟩
    refine wpAny_pyIter_enum he ?_
    have hz:(s2.heap.push { cls:= .type (srcTy tp),data:= .fields #[.ref a, .int 0 0] }).objs.size=s2.heap.objs.size+1:=Heap.size_push ..
    have hk2:∀ b o,s2.heap.get? b=some o→h'.get? b=some o:=fun b o z=>hk b o (Heap.get?_push_of_some _ z)
    have I3:=I2.kept (t':=s2.toks) hk2
    have st:SrcIt tp h' s2.heap.objs.size a 0:=srcIt_at srcIt_new fun o z=>hk _ o z
    refine ⟨_,[_,s2.heap.objs.size],_,_,H2,rfl,I3,turn_enumS tp a _ _ (by rw [hz];exact Nat.succ_ne_self _),⟨⟨_,he⟩,st⟩,fun b hb=> ?_,q⟩
    have hb':s2.heap.objs.size≤b:=by
      rcases List.mem_cons.mp hb with z | z
      · rw [z,hz];exact Nat.le_succ _
      · have z:b=s2.heap.objs.size:=by simpa using z
        rw [z];exact Nat.le_refl _
    exact I2.fpOk hb' (I2.hok.fresh hb')
end
noncomputable def Isq (tp:Bool) (K:PySem.W.Frag) (a:Addr):It:=if tp=true then Itt K a else Itl K a
section
variable {X:Cx} {tg:Expr} {K:PySem.W.Frag}
noncomputable def iSq (K:PySem.W.Frag) (tl:TE):TI:=fun σ H R=>tl σ H fun x H1=>∃ tp a,x= .ref a∧(∃ xs,SqS tp K H1 a xs)∧R (Isq tp K a) H1
theorem pi_sq {l:Expr} {tl:TE} (hl:PE X l tl) (hK:X.K=K:=by rfl):PI X tg l (iSq K tl):=by
  subst hK
  intro pins s σ H R I h
  refine thn (hl pins s σ H _ I h) fun v s1 ⟨x,H1,I1,r1,q1⟩=> ?_
  obtain ⟨tp,a,e,⟨xs,hq⟩,q⟩:=q1
  subst e
  cases r1
  cases tp with
  | false=>
    obtain ⟨its,rv,p,hz⟩:=I1.list (show SqL X.K H1 a xs from hq)
    refine wpAny_pyIter_list p.isList ?_
    refine ⟨s1.heap.objs.size,[s1.heap.objs.size],_,_,H1,rfl,I1.kept (t':=s1.toks) fun b o e=>Heap.get?_push_of_some _ e,turn_list a _,⟨_,Heap.get?_push_size _ rfl,rfl,rfl⟩,fun b hb=> ?_,q⟩
    have e:b=s1.heap.objs.size:=by simpa using hb
    subst e
    exact I1.fpOk (Nat.le_refl _) (I1.hok.fresh (Nat.le_refl _))
  | true=>
    obtain ⟨its,rv,p,hz⟩:=I1.tuple (show SqT X.K H1 a xs from hq)
    refine wpAny_pyIter_tuple (show s1.heap.IsTuple a its.toArray from p) ?_
    refine ⟨s1.heap.objs.size,[s1.heap.objs.size],_,_,H1,rfl,I1.kept (t':=s1.toks) fun b o e=>Heap.get?_push_of_some _ e,turn_tuple a _,⟨_,Heap.get?_push_size _ rfl,rfl,rfl⟩,fun b hb=> ?_,q⟩
    have e:b=s1.heap.objs.size:=by simpa using hb
    subst e
    exact I1.fpOk (Nat.le_refl _) (I1.hok.fresh (Nat.le_refl _))
end
structure FSrc (J:It) (g:TG) (H:Hp) (n:Nat) (set:Nat→St→St):Prop where
  go:∀ i H',i<n→Same H H'→J.go i H'
  stop:∀ H',Same H H'→J.stop n H'
  yld:∀ i σ H' x H'' (R:St→Hp→Prop),i<n→Same H H'→J.yld i H' x H''→(∀ H3,Same H' H3→R (set i σ) H3)→g x σ H'' R
theorem for_src {J:It} {g:TG} {H:Hp} {n:Nat} {set:Nat→St→St} {tb:TS} {D:Ends} {σ:St} (S:FSrc J g H n set) (Pv:Nat→St→Hp→Prop) (h0:Pv 0 σ H) (hk:∀ i σ H',Pv i σ H'→Same H H')
    (hs:∀ i σ H' H3,i<n→Pv i σ H'→Same H' H3→tb { D with nx:=Pv (i+1),ct:=Pv (i+1),bk:=D.nx } (set i σ) H3) (hd:∀ σ H',Pv n σ H'→D.nx σ H'):
    ∃ W:Nat→Nat→St→Hp→Prop,(∃ m,W 0 m σ H)∧∀ i m σ H,W i m σ H→
      (J.stop i H∧D.nx σ H)∨(J.go i H∧∃ N:St→Hp→Prop,(∀ σ' H',N σ' H'→∃ m',m'<m∧W (i+1) m' σ' H')∧∀ x H',J.yld i H x H'→g x σ H' fun σ2 H2=>tb { D with nx:=N,ct:=N,bk:=D.nx } σ2 H2):=by
  refine ⟨fun i m σ H'=>m=n - i∧i≤n∧Pv i σ H',⟨n,by simp,Nat.zero_le _,h0⟩,?_⟩
  rintro i m σ H1 ⟨rfl,hi,p⟩
  by_cases hlt:i<n
  · exact .inr ⟨S.go i H1 hlt (hk _ _ _ p),Pv (i+1),fun σ' H' p'=>⟨n - (i+1),by omega,rfl,hlt,p'⟩,fun x H' y=>S.yld i σ H1 x H' _ hlt (hk _ _ _ p) y fun H3 s3=>hs i σ H1 H3 hlt p s3⟩
  · have e:i=n:=by omega
    subst e
    exact .inl ⟨S.stop H1 (hk _ _ _ p),hd σ H1 p⟩
section
variable {K:PySem.W.Frag} {H:Hp} {a b:Addr} {xs zs:List V} {tp t1 t2:Bool} {i1 i2:Nat}
theorem fs_sq (h:SqS tp K H a xs):FSrc (Isq tp K a) (gName i1) H xs.length (fun i σ=>σ.set i1 (some (xs.getD i .non))):=by
  cases tp with
  | false=>exact {
      go:=fun i H' hi s=>⟨xs,xs[i],SqS.same (tp:=false) h s,by simp [hi]⟩
      stop:=fun H' s=>⟨xs,SqS.same (tp:=false) h s,Nat.le_refl _⟩
      yld:=fun i σ H' x H'' R hi s y k=>by
        obtain ⟨e,hv⟩:=y
        subst e
        have e:x=xs.getD i .non:=by
          rw [List.getD_eq_getElem?_getD,hv xs (SqS.same (tp:=false) h s)]
          rfl
        subst e
        exact k _ (Same.refl _) }
  | true=>exact {
      go:=fun i H' hi s=>⟨xs,xs[i],SqS.same (tp:=true) h s,by simp [hi]⟩
      stop:=fun H' s=>⟨xs,SqS.same (tp:=true) h s,Nat.le_refl _⟩
      yld:=fun i σ H' x H'' R hi s y k=>by
        obtain ⟨e,hv⟩:=y
        subst e
        have e:x=xs.getD i .non:=by
          rw [List.getD_eq_getElem?_getD,hv xs (SqS.same (tp:=true) h s)]
          rfl
        subst e
        exact k _ (Same.refl _) }
theorem fs_list (h:SqL K H a xs):FSrc (Itl K a) (gName i1) H xs.length (fun i σ=>σ.set i1 (some (xs.getD i .non))):=fs_sq (tp:=false) h
theorem fs_tup (h:SqT K H a xs):FSrc (Itt K a) (gName i1) H xs.length (fun i σ=>σ.set i1 (some (xs.getD i .non))):=fs_sq (tp:=true) h
theorem fs_range {lo:Int} {n:Nat}:FSrc (Itr lo n) (gName i1) H n (fun i σ=>σ.set i1 (some (.int (lo+i)))) where
  go:=fun i H' hi s=>hi
  stop:=fun H' s=>Nat.le_refl _
  yld:=fun i σ H' x H'' R hi s y k=>by
    obtain ⟨e,hv⟩:=y
    subst e hv
    exact k _ (Same.refl _)
theorem fs_enumS (h:SqS tp K H a xs):FSrc (IteS tp K a) (gTup K 2 (gCons (gName i1) (gCons (gName i2) gNil))) H xs.length (fun i σ=>(σ.set i1 (some (.int ((i+1:Nat):Int)))).set i2 (some (xs.getD i .non))) where
  go:=fun i H' hi s=>⟨xs,xs[i],h.same s,by simp [hi]⟩
  stop:=fun H' s=>⟨xs,h.same s,Nat.le_refl _⟩
  yld:=fun i σ H' x H'' R hi s y k=>by
    obtain ⟨p,v,hp,rfl,rfl,hv⟩:=y
    have e:v=xs.getD i .non:=by
      rw [List.getD_eq_getElem?_getD,hv xs (h.same s)]
      rfl
    subst e
    exact ⟨p,_,rfl,SqT.of upd_same,rfl,_,_,rfl,_,_,rfl,rfl,k _ (same_new hp)⟩
theorem fs_enum (h:SqL K H a xs):FSrc (Ite K a) (gTup K 2 (gCons (gName i1) (gCons (gName i2) gNil))) H xs.length (fun i σ=>(σ.set i1 (some (.int i))).set i2 (some (xs.getD i .non))) where
  go:=fun i H' hi s=>⟨xs,xs[i],s.seq h,by simp [hi]⟩
  stop:=fun H' s=>⟨xs,s.seq h,Nat.le_refl _⟩
  yld:=fun i σ H' x H'' R hi s y k=>by
    obtain ⟨p,v,hp,rfl,rfl,hv⟩:=y
    have e:v=xs.getD i .non:=by
      rw [List.getD_eq_getElem?_getD,hv xs (s.seq h)]
      rfl
    subst e
    exact ⟨p,_,rfl,SqT.of upd_same,rfl,_,_,rfl,_,_,rfl,rfl,k _ (same_new hp)⟩
theorem fs_zs (h:SqS t1 K H a xs) (h':SqS t2 K H b zs) (hl:xs.length=zs.length):
    FSrc (Izs t1 t2 K a b) (gTup K 2 (gCons (gName i1) (gCons (gName i2) gNil))) H xs.length (fun i σ=>(σ.set i1 (some (xs.getD i .non))).set i2 (some (zs.getD i .non))) where
  go:=fun i H' hi s=>⟨xs,zs,xs[i],zs[i]'(by omega),h.same s,h'.same s,by simp [hi],by simp⟩
  stop:=fun H' s=>⟨xs,zs,h.same s,h'.same s, .inl (Nat.le_refl _)⟩
  yld:=fun i σ H' x H'' R hi s y k=>by
    obtain ⟨p,v,z,hp,rfl,rfl,hv,hz⟩:=y
    have e:v=xs.getD i .non:=by
      rw [List.getD_eq_getElem?_getD,hv xs (h.same s)]
      rfl
    have e2:z=zs.getD i .non:=by
      rw [List.getD_eq_getElem?_getD,hz zs (h'.same s)]
      rfl
    subst e e2
    exact ⟨p,_,rfl,SqT.of upd_same,rfl,_,_,rfl,_,_,rfl,rfl,k _ (same_new hp)⟩
theorem FSrc.src {J:It} {g:TG} {n:Nat} {set:Nat→St→St} {σ0:St} (S:FSrc J g H n set) (kp:∀ i,i<n→Kp σ0 (set i σ0)):SrcOk J g σ0 H n (fun i=>set i σ0) where
  go:=S.go
  stop:=S.stop
  yld:=fun i H' x H'' R hi s y k=>S.yld i σ0 H' x H'' R hi s y k
  kp:=kp
theorem src_sq {σ0:St} (h:SqS tp K H a xs) (h0:σ0[0]?=some none):SrcOk (Isq tp K a) (gName 0) σ0 H xs.length (fun i=>σ0.set 0 (some (xs.getD i .non))):=(fs_sq h).src fun i _=>(Kp.refl _).set h0
theorem src_enumS {σ0:St} (h:SqS tp K H a xs) (h0:σ0[0]?=some none) (h1:σ0[1]?=some none):SrcOk (IteS tp K a) (gTup K 2 (gCons (gName 0) (gCons (gName 1) gNil))) σ0 H xs.length (fun i=>(σ0.set 0 (some (.int ((i+1:Nat):Int)))).set 1 (some (xs.getD i .non))):=
  (fs_enumS h).src fun i _=>((Kp.refl _).set h0).set h1
end
end L2
namespace L2
open PySem PySem.Spec PyProof.Rows
theorem bA (a b:Nat):Builtin.bitAnd (a:Int) (b:Int)=((a &&& b:Nat):Int):=by
  rw [PyProof.Rows.bitAnd_pp (by omega) (by omega)]
  rfl
theorem bO (a b:Nat):Builtin.bitOr (a:Int) (b:Int)=((a ||| b:Nat):Int):=by
  have h:=MM.or_add_and a b
  rw [PyProof.Rows.bitOr_and,bA]
  omega
theorem bX (a b:Nat):Builtin.bitXor (a:Int) (b:Int)=((a ^^^ b:Nat):Int):=by
  have h:=MM.xor_eq a b
  show Builtin.bitOr (a:Int) b - Builtin.bitAnd (a:Int) b=_
  rw [bO,bA]
  omega
theorem bits_eq (m:Nat):((Builtin.Int.intBits (m:Int):Nat):Int)=((MM.bits m:Nat):Int):=by
  unfold Builtin.Int.intBits MM.bits
  by_cases h:m=0
  · subst h;rfl
  · have e:((m:Int) == 0)=false:=by simp [h]
    rw [e,if_neg h]
    simp
theorem pow_cast (n:Nat):(1:Int)*2 ^ n=((2 ^ n:Nat):Int):=by
  rw [Int.one_mul]
  push_cast
  rfl
section
variable {X:Cx}
noncomputable def rBits:V→List V→Hp→VK→Prop:=fun x vs H Q=>∃ i:Int,x= .int i∧vs=[]∧Q (.int (Builtin.Int.intBits i:Nat)) H
theorem mt_bit_length:MtM X "int.bit_length" rBits:=by
  intro pins s σ H x vs v us Q I rx rv h
  obtain ⟨i,rfl,rfl,q⟩:=h
  obtain ⟨t,rfl⟩:=rx
  have hus:=rv.zero
  subst hus
  exact PyProof.Rows.call_int_bit_length ⟨.int _,H,I.tok _,⟨_,rfl⟩,q⟩
end
section
variable {H:Hp} {Q:VK} {σ:St} {D:Ends} {te:TE} {ti:TIp} {i:Nat} {x:V}
theorem rd_bits {m:Nat} (h:Q (.int (MM.bits m:Nat)) H):rBits (.int (m:Nat)) [] H Q:=⟨m,rfl,rfl,by rw [bits_eq];exact h⟩
theorem rd_aug (e:σ[i]?=some (some x)) (h:te σ H fun y H1=>ti x y H1 fun z H2=>D.nx (σ.set i (some z)) H2):tAug i te ti D σ H:=⟨x,e,h⟩
end
noncomputable abbrev nV (n:Nat):V:= .int (n:Nat)
theorem getD_nat {ns:List Nat} {i:Nat} (h:i<(ns.map nV).length):(ns.map nV).getD i .non= .int (ns.getD i 0:Nat):=by
  have h':i<ns.length:=by simpa using h
  simp [List.getD_eq_getElem?_getD,h']
theorem getD_int {ns:List Int} {i:Nat} (h:i<(ns.map V.int).length):(ns.map V.int).getD i .non= .int (ns.getD i 0):=by
  have h':i<ns.length:=by simpa using h
  simp [List.getD_eq_getElem?_getD,h']
theorem atI_int {ns:List Int} {k:Int} (h0:0≤k) (h1:k<ns.length):atI (ns.map V.int) k=some (.int (ns.getD k.toNat 0)):=by
  obtain ⟨j,rfl⟩:∃ j:Nat,k=j:=⟨k.toNat,by omega⟩
  have h':j<ns.length:=by omega
  refine atI_nat ?_
  rw [show ((j:Int)).toNat=j by omega]
  simp [List.getD_eq_getElem?_getD,h']
theorem atI_natV {ns:List Nat} {k:Int} (h0:0≤k) (h1:k<ns.length):atI (ns.map nV) k=some (.int (ns.getD k.toNat 0:Nat)):=by
  obtain ⟨j,rfl⟩:∃ j:Nat,k=j:=⟨k.toNat,by omega⟩
  have h':j<ns.length:=by omega
  refine atI_nat ?_
  rw [show ((j:Int)).toNat=j by omega]
  simp [List.getD_eq_getElem?_getD,h']
theorem take_getD {ns:List Nat} {i:Nat} (h:i<ns.length):ns.take (i+1)=ns.take i++[ns.getD i 0]:=by
  rw [List.take_succ_eq_append_getElem h]
  simp [List.getD_eq_getElem?_getD,h]
theorem ints_comp {J:It} {g:TG} {σ0:St} {H:Hp} {n:Nat} {st:Nat→St} {te:TE} {Q:VK} {D:Addr} {G:Nat→Int} (S:SrcOk J g σ0 H n st) (hD:H D=none) (hn:n≤100000)
    (he:∀ i H' (R:VK),i<n→Same H H'→(∀ H3,Same H' H3→R (.int (G i)) H3)→te (st i) H' R)
    (hd:∀ H',Same H H'→H' D=some (.lst (((List.range n).map G).map V.int))→Q (.ref D) H'):CompW J σ0 g tYes te Q H D:=by
  refine comp_map (m:=0) (G:=fun i=> .int (G i)) S hD hn (fun i H' R hi s k=>he i H' R hi s fun H3 s3=>k H3 _ s3 (.int _)) fun H' ys s hl r=> ?_
  have e:(List.range n).map (fun i=>Dt.int (G i))=((List.range n).map G).map Dt.int:=by rw [List.map_map];rfl
  rw [e] at r
  obtain ⟨b,eb,hb,fb⟩:=ints_of r
  cases eb
  exact hd H' s hb
theorem ints_compF {J:It} {g:TG} {σ0:St} {H:Hp} {n:Nat} {st:Nat→St} {tc:TT} {te:TE} {Q:VK} {D:Addr} {p:Nat→Bool} {G:Nat→Int} (S:SrcOk J g σ0 H n st) (hD:H D=none) (hn:n≤100000)
    (ht:∀ i H' (R:Bool→Hp→Prop),i<n→Same H H'→(∀ H3,Same H' H3→R (p i) H3)→tc (st i) H' R)
    (he:∀ i H' (R:VK),i<n→p i=true→Same H H'→(∀ H3,Same H' H3→R (.int (G i)) H3)→te (st i) H' R)
    (hd:∀ H',Same H H'→H' D=some (.lst ((((List.range n).filter p).map G).map V.int))→Q (.ref D) H'):CompW J σ0 g tc te Q H D:=by
  refine comp_data (m:=0) (p:=p) (G:=fun i=> .int (G i)) S hD hn ht (fun i H' R hi hp s k=>he i H' R hi hp s fun H3 s3=>k H3 _ s3 (.int _)) fun H' ys s hl r=> ?_
  have e:((List.range n).filter p).map (fun i=>Dt.int (G i))=(((List.range n).filter p).map G).map Dt.int:=by rw [List.map_map];rfl
  rw [e] at r
  obtain ⟨b,eb,hb,fb⟩:=ints_of r
  cases eb
  exact hd H' s hb
theorem bls_comp {J:It} {g:TG} {σ0:St} {H:Hp} {n:Nat} {st:Nat→St} {te:TE} {Q:VK} {D:Addr} {G:Nat→Bool} (S:SrcOk J g σ0 H n st) (hD:H D=none) (hn:n≤100000)
    (he:∀ i H' (R:VK),i<n→Same H H'→(∀ H3,Same H' H3→R (.bl (G i)) H3)→te (st i) H' R)
    (hd:∀ H',Same H H'→H' D=some (.lst (((List.range n).map G).map V.bl))→Q (.ref D) H'):CompW J σ0 g tYes te Q H D:=by
  refine comp_map (m:=0) (G:=fun i=> .bl (G i)) S hD hn (fun i H' R hi s k=>he i H' R hi s fun H3 s3=>k H3 _ s3 (.bl _)) fun H' ys s hl r=> ?_
  have e:ys=((List.range n).map G).map V.bl:=by
    cases r with
    | @lst _ _ vs _ q f b l ee=>
      rw [hl] at q
      cases q
      refine List.ext_getElem (by simpa using l) fun i h1 h2=> ?_
      have hi:i<n:=by simpa using h2
      have:=ee i ys[i] (.bl (G i)) (by simp [h1]) (by simp [hi])
      cases hv:ys[i] <;> rw [hv] at this <;> cases this
      simp
  rw [e] at hl
  exact hd H' s hl
end L2
namespace L2
open PySem PySem.Spec PyProof.Rows
noncomputable def MakeF (P:Program) (w:World) (K:PySem.W.Frag) (mg:Str→Option Value) (base:Heap) (x:Str) (C:Addr) (k:Nat) (ps:List Str) (sp:Sp):Prop:=
  ∃ f fd,mg x=some (.ref C)∧Mk K C f∧FnOk P w K mg base CX0 k f fd ps sp∧Binds K fd ps []
noncomputable def MethF (P:Program) (w:World) (K:PySem.W.Frag) (mg:Str→Option Value) (base:Heap) (C:Addr) (m:Str) (k:Nat) (ps:List Str) (sp:Sp):Prop:=
  ∃ f fd,Cls K C∧Meth K C m f∧FnOk P w K mg base CX0 k f fd ps sp∧Binds K fd ps []
section
variable {X:Cx} {x m:Str} {C:Addr} {k:Nat} {ps:List Str} {sp:Sp} {o e:Expr} {es:List Expr} {t:TA} {ta:TE} {p pos apos:Pos}
theorem pe_makeF (h:MakeF X.prog X.w X.K X.mg X.base x C k ps sp) (hr:Room (k+1) X.A) (ha:PA X (e::es) t) (hg:Gl X x:=by rfl) (hdb:(x == ("__debug__":Str))=false:=by decide)
    (he:starEach (e::es) X.env=(false,eval e X.env)::starEach es X.env:=by rfl) (hpl:(backTo pos (starEach es X.env)).any (·.1)=false:=by rfl):
    PE X (.Call (.Name x p) (e::es) [] pos) (tMake C sp [] E0 t):=by
  obtain ⟨f,fd,hm,M,F,hb⟩:=h
  exact pe_make M F hr hg hm hb .nil pass0 ha hdb he hpl
theorem pe_methF {pl:Sem Bool} (he:PE X o ta) (h:MethF X.prog X.w X.K X.mg X.base C m k ps sp) (hr:Room k X.A) (ha:PA X (e::es) t)
    (hst:starEach (e::es) X.env=(false,eval e X.env)::starEach es X.env:=by rfl) (hpl:(backTo pos (starEach es X.env)).any (·.1)=false:=by rfl)
    (ht:eval (.Call (.Attribute o m apos) (e::es) [] pos) X.env=(do
      let ov ← eval o X.env
      standAt apos.atName
      let (f,first) ← holding [ov] (getMethod ov m pl)
      callWith pos f first (backTo pos (starEach (e::es) X.env)) (backToKw pos (keywordEach [] X.env))):=by rfl):
    PE X (.Call (.Attribute o m apos) (e::es) [] pos) (tMeth C m sp [] E0 ta t):=by
  obtain ⟨f,fd,c,hm,F,hb⟩:=h
  exact pe_meth (pl:=pl) he c hm F hr hb .nil pass0 ha hst hpl ht
theorem pe_methF0 {pl:Sem Bool} (he:PE X o ta) (h:MethF X.prog X.w X.K X.mg X.base C m k ps sp) (hr:Room k X.A)
    (ht:eval (.Call (.Attribute o m apos) [] [] pos) X.env=(do
      let ov ← eval o X.env
      standAt apos.atName
      let (f,first) ← holding [ov] (getMethod ov m pl)
      callWith pos f first (backTo pos (starEach [] X.env)) (backToKw pos (keywordEach [] X.env))):=by rfl):
    PE X (.Call (.Attribute o m apos) [] [] pos) (tMeth C m sp [] E0 ta tNil):=by
  obtain ⟨f,fd,c,hm,F,hb⟩:=h
  exact pe_meth0 (pl:=pl) he c hm F hr hb .nil pass0 ht
end
structure Kind (K:PySem.W.Frag) (C:Addr):Prop where
  cl:Cls K C
  ha:PySem.W.findIn K (.ref C) "__class__"=some (some (.builtin "object.__class__"))
  hn:PySem.W.specialIn K (.builtin "object.__class__") "__get__"=some (some (.builtin "getset_descriptor.__get__"))
  htk:PySem.W.takesIn K (.builtin "object.__class__")=some true
  hm:PySem.W.mroIn K C (.type "object")=some true
section
variable {K:PySem.W.Frag} {H:Hp} {Q:VK} {σ:St} {D:Ends} {te tv:TE} {t:TA} {a C dx:Addr} {fs:List (Str × V)} {f:Str} {v:V} {sp:Sp}
theorem rd_fld (h:te σ H fun x H1=>∃ a C dx fs v,x= .ref a∧H1 a=some (.ins C dx fs)∧Cls K C∧NoAttr K C f∧fs.lookup f=some v∧Q v H1):tFld K te f σ H Q:=h
theorem rd_put (h:tv σ H fun y H1=>te σ H1 fun x H2=>∃ a C dx fs,x= .ref a∧H2 a=some (.ins C dx fs)∧Cls K C∧NoAttr K C f∧fs.length<1000∧D.nx σ (upd H2 a (.ins C dx (putF f y fs)))):sFld K te tv f D σ H:=h
theorem rd_set {y:V} (e:H a=some (.ins C dx fs)) (c:Cls K C) (n:NoAttr K C f) (l:fs.length<1000) (h:D.nx σ (upd H a (.ins C dx (putF f y fs)))):∃ a' C' dx' fs',V.ref a= .ref a'∧H a'=some (.ins C' dx' fs')∧Cls K C'∧NoAttr K C' f∧fs'.length<1000∧D.nx σ (upd H a' (.ins C' dx' (putF f y fs'))):=⟨a,C,dx,fs,rfl,e,c,n,l,h⟩
theorem rd_make (h:t σ H fun vs H1=>∀ x dx,H1 x=none→H1 dx=none→dx≠x→sp (.ref x::vs) (upd (upd H1 dx (.own x)) x (.ins C dx [])) (fun v H2=>v= .non∧Q (.ref x) H2) E0):tMake C sp [] E0 t σ H Q:=by
  unfold tMake
  simpa using h
theorem rd_meth {m:Str} (h:te σ H fun x H1=>∃ a dx fs,x= .ref a∧H1 a=some (.ins C dx fs)∧fs.lookup m=none∧t σ H1 fun vs H2=>sp (x::vs) H2 Q E0):tMeth C m sp [] E0 te t σ H Q:=by
  unfold tMeth
  simpa using h
end
theorem rd_chain {r r':R2} {ta tb tc:TE} {σ:St} {H:Hp} {Q:VK} (h:ta σ H fun x H1=>tb σ H1 fun y H2=>r x y H2 fun z H3=>∃ k,z= .bl k∧(if k=true then tc σ H3 fun w' H4=>r' y w' H4 Q else Q (.bl false) H3)):tChain r r' ta tb tc σ H Q:=h
noncomputable def amongV (x:V) (a b:Int):Bool:=match x with | .int i=>decide (a≤i)&&decide (i≤b) | _=>false
theorem fin_b {b b':Bool} {Q:VK} {H:Hp} (e:b=b') (h:Q (.bl b') H):Q (.bl b) H:=e▸h
theorem iteC {b:Bool} {A B:Prop} (h1:b=true→A) (h2:b=false→B):if b=true then A else B:=by
  cases b with
  | true=>exact h1 rfl
  | false=>exact h2 rfl
theorem same_obj {H:Hp} {x dx:Addr} {o:HO} {u:HO} (h1:H x=none) (h2:H dx=none):Same H (upd (upd H dx u) x o):=fun b q e=>by
  rw [upd_ne (ne_of_none e h1),upd_ne (ne_of_none e h2)]
  exact e
end L2
namespace L2
open PySem PySem.Spec PyProof.Rows
mutual
noncomputable def eqD:Dt→Dt→Bool
  | .non, .non=>true
  | .bl a, .bl b=>a == b
  | .int a, .int b=>a == b
  | .str a, .str b=>a == b
  | .bl a, .int b=>(if a then 1 else 0) == b
  | .int a, .bl b=>a == (if b then 1 else 0)
  | .lst xs, .lst ys=>eqDs xs ys
  | .tup xs, .tup ys=>eqDs xs ys
  | _,_=>false
noncomputable def eqDs:List Dt→List Dt→Bool
  | [],[]=>true
  | x::xs,y::ys=>eqD x y&&eqDs xs ys
  | _,_=>false
end
theorem eqDs_len:∀ {xs ys:List Dt},xs.length≠ys.length→eqDs xs ys=false
  | [],[],h=>absurd rfl h
  | [],_::_,_=>by unfold eqDs;rfl
  | _::_,[],_=>by unfold eqDs;rfl
  | x::xs,y::ys,h=>by
    unfold eqDs
    rw [eqDs_len (xs:=xs) (ys:=ys) (fun e=>h (by simp [e])),Bool.and_false]
theorem eqDs_all:∀ {xs ys:List Dt},xs.length=ys.length→eqDs xs ys=(List.range xs.length).all fun i=>eqD (xs.getD i .non) (ys.getD i .non)
  | [],[],_=>by unfold eqDs;rfl
  | [],_::_,h=>by simp at h
  | _::_,[],h=>by simp at h
  | x::xs,y::ys,h=>by
    unfold eqDs
    rw [eqDs_all (xs:=xs) (ys:=ys) (by simpa using h),List.length_cons,List.range_succ_eq_map,List.all_cons,List.all_map]
    rfl
mutual
theorem eqD_refl:∀ d:Dt,eqD d d=true
  | .non=>by unfold eqD;rfl
  | .bl a=>by unfold eqD;simp
  | .int a=>by unfold eqD;simp
  | .str a=>by unfold eqD;simp
  | .lst xs=>by unfold eqD;exact eqDs_refl xs
  | .tup xs=>by unfold eqD;exact eqDs_refl xs
theorem eqDs_refl:∀ d:List Dt,eqDs d d=true
  | []=>by unfold eqDs;rfl
  | x::xs=>by unfold eqDs;rw [eqD_refl x,eqDs_refl xs];rfl
end
theorem Rp.inj {H:Hp} {F G:Addr→Prop} {n m:Nat} {v:V} {d e:Dt} (r:Rp H F n v d) (r2:Rp H G m v e):d=e:=by
  induction r generalizing m e with
  | non=>cases r2;rfl
  | bl b=>cases r2;rfl
  | int i=>cases r2;rfl
  | str z=>cases r2;rfl
  | @lst n a vs ds h f b l el ih=>
    cases r2 with
    | @lst m _ vs2 ds2 h2 f2 b2 l2 el2=>
      rw [h] at h2
      cases h2
      congr 1
      refine List.ext_getElem (by omega) fun i h1 h3=> ?_
      have hv:i<vs.length:=by omega
      exact ih i vs[i] ds[i] (by simp [hv]) (by simp [h1]) (el2 i vs[i] ds2[i] (by simp [hv]) (by simp [h3]))
    | tup h2 _ _ _=>rw [h] at h2;cases h2
  | @tup n a vs ds h b l el ih=>
    cases r2 with
    | @tup m _ vs2 ds2 h2 b2 l2 el2=>
      rw [h] at h2
      cases h2
      congr 1
      refine List.ext_getElem (by omega) fun i h1 h3=> ?_
      have hv:i<vs.length:=by omega
      exact ih i vs[i] ds[i] (by simp [hv]) (by simp [h1]) (el2 i vs[i] ds2[i] (by simp [hv]) (by simp [h3]))
    | lst h2 _ _ _ _=>rw [h] at h2;cases h2
section
variable {X:Cx} {pins:List (Addr × Obj)} {σ:St} {H:Hp} {s:Shared}
theorem at_item {F G:Addr→Prop} {n:Nat} {xs ys:List V} {ds es:List Dt} {its its2:List Value} {A:Around} (r:Vals xs its) (r2:Vals ys its2) (l1:xs.length=ds.length) (l2:ys.length=es.length)
    (el:∀ (i:Nat) (v:V) (d:Dt),xs[i]?=some v→ds[i]?=some d→Rp H F n v d) (el2:∀ (i:Nat) (v:V) (d:Dt),ys[i]?=some v→es[i]?=some d→Rp H G n v d)
    (ih:∀ {v u:V} {d e:Dt} {rv ru:Value},Rp H F n v d→Rp H G n u e→RelV v rv→RelV u ru→SeqAt.EqAt A s rv ru (eqD d e)):
    ∀ j (h1:j<its.toArray.size) (h2:j<its2.toArray.size),SeqAt.EqAt A s its.toArray[j] its2.toArray[j] (eqD (ds.getD j .non) (es.getD j .non)):=fun j h1 h2=>by
  have k1:=r.length
  have k2:=r2.length
  have h1':j<its.length:=by simpa using h1
  have h2':j<its2.length:=by simpa using h2
  have g1:xs[j]?=some (xs.getD j .non):=by rw [List.getD_eq_getElem?_getD,List.getElem?_eq_getElem (by omega)];rfl
  have g2:ys[j]?=some (ys.getD j .non):=by rw [List.getD_eq_getElem?_getD,List.getElem?_eq_getElem (by omega)];rfl
  have d1:ds[j]?=some (ds.getD j .non):=by rw [List.getD_eq_getElem?_getD,List.getElem?_eq_getElem (by omega)];rfl
  have d2:es[j]?=some (es.getD j .non):=by rw [List.getD_eq_getElem?_getD,List.getElem?_eq_getElem (by omega)];rfl
  obtain ⟨u,e1,ru⟩:=r.get g1
  obtain ⟨u2,e2,ru2⟩:=r2.get g2
  have q1:its.toArray[j]=u:=by rw [List.getElem?_eq_getElem h1'] at e1;simpa using Option.some.inj e1
  have q2:its2.toArray[j]=u2:=by rw [List.getElem?_eq_getElem h2'] at e2;simpa using Option.some.inj e2
  rw [q1,q2]
  exact ih (el j _ _ g1 d1) (el2 j _ _ g2 d2) ru ru2
theorem in1_units (A:Around):A.in1.units=A.units+1:=rfl
theorem eqAt_D (I:Inv X pins σ H s) {F G:Addr→Prop}:∀ {n:Nat} {A:Around} {v u:V} {d e:Dt} {rv ru:Value},Rp H F n v d→Rp H G n u e→RelV v rv→RelV u ru→A.units+n<cLine→SeqAt.EqAt A s rv ru (eqD d e):=by
  intro n
  have sc:∀ {n m:Nat} {A:Around} {v u:V} {d e:Dt} {rv ru:Value},Rp H F n v d→Rp H G m u e→(isLst d||isTup d)=false→(isLst e||isTup e)=false→RelV v rv→RelV u ru→SeqAt.EqAt A s rv ru (eqD d e):=by
    intro n m A v u d e rv ru r r2 n1 n2 rr rr2
    cases r with
    | non=>
      cases rr
      cases r2 with
      | non=>
        cases rr2
        simp only [eqD]
        exact (show SeqAt.EqAt A s Value.none Value.none true from SeqAt.EqAt.same _)
      | bl x2=>
        cases rr2
        simp only [eqD]
        exact SeqAt.EqAt.none_bool _
      | int x2=>
        obtain ⟨t2,rfl⟩:=rr2
        simp only [eqD]
        exact SeqAt.EqAt.none_int _ _
      | str x2=>
        obtain ⟨t2,rfl⟩:=rr2
        simp only [eqD]
        exact SeqAt.EqAt.none_str _ _
      | lst _ _ _ _ _=>cases n2
      | tup _ _ _ _=>cases n2
    | bl x1=>
      cases rr
      cases r2 with
      | non=>
        cases rr2
        simp only [eqD]
        exact SeqAt.EqAt.bool_none _
      | bl x2=>
        cases rr2
        simp only [eqD]
        exact SeqAt.EqAt.bool_bool _ _
      | int x2=>
        obtain ⟨t2,rfl⟩:=rr2
        simp only [eqD]
        exact SeqAt.EqAt.bool_int _ _ _
      | str x2=>
        obtain ⟨t2,rfl⟩:=rr2
        simp only [eqD]
        exact SeqAt.EqAt.bool_str _ _ _
      | lst _ _ _ _ _=>cases n2
      | tup _ _ _ _=>cases n2
    | int x1=>
      obtain ⟨t1,rfl⟩:=rr
      cases r2 with
      | non=>
        cases rr2
        simp only [eqD]
        exact SeqAt.EqAt.int_none _ _
      | bl x2=>
        cases rr2
        simp only [eqD]
        exact SeqAt.EqAt.int_bool _ _ _
      | int x2=>
        obtain ⟨t2,rfl⟩:=rr2
        simp only [eqD]
        exact SeqAt.EqAt.int_int _ _ _ _
      | str x2=>
        obtain ⟨t2,rfl⟩:=rr2
        simp only [eqD]
        exact SeqAt.EqAt.int_str _ _ _ _
      | lst _ _ _ _ _=>cases n2
      | tup _ _ _ _=>cases n2
    | str x1=>
      obtain ⟨t1,rfl⟩:=rr
      cases r2 with
      | non=>
        cases rr2
        simp only [eqD]
        exact SeqAt.EqAt.str_none _ _
      | bl x2=>
        cases rr2
        simp only [eqD]
        exact SeqAt.EqAt.str_bool _ _ _
      | int x2=>
        obtain ⟨t2,rfl⟩:=rr2
        simp only [eqD]
        exact SeqAt.EqAt.str_int _ _ _ _
      | str x2=>
        obtain ⟨t2,rfl⟩:=rr2
        simp only [eqD]
        exact SeqAt.EqAt.str_str _ _ _ _
      | lst _ _ _ _ _=>cases n2
      | tup _ _ _ _=>cases n2
    | lst _ _ _ _ _=>cases n1
    | tup _ _ _ _=>cases n1
  induction n with
  | zero=>
    intro A v u d e rv ru r r2 rr rr2 hu
    exact sc r r2 (by cases r <;> rfl) (by cases r2 <;> rfl) rr rr2
  | succ n ih=>
    intro A v u d e rv ru r r2 rr rr2 hu
    have hu':A.units<cLine:=by omega
    cases h1:(isLst d||isTup d) with
    | false=>
      cases h2:(isLst e||isTup e) with
      | false=>exact sc r r2 h1 h2 rr rr2
      | true=>
        cases r2 with
        | @lst _ b ys es q2 f2 b2 l2 el2=>
          obtain rfl:ru=Value.ref b:=rr2
          obtain ⟨its2,rv2,pl2,_⟩:=I.list (SqL.of q2)
          cases r with
          | non=>cases rr;simp only [eqD];exact SeqAt.EqAt.none_list pl2.isList hu'
          | bl x1=>cases rr;simp only [eqD];exact SeqAt.EqAt.bool_list _ pl2.isList hu'
          | int x1=>obtain ⟨t,rfl⟩:=rr;simp only [eqD];exact SeqAt.EqAt.int_list _ _ pl2.isList hu'
          | str x1=>obtain ⟨t,rfl⟩:=rr;simp only [eqD];exact SeqAt.EqAt.str_list _ _ pl2.isList hu'
          | lst _ _ _ _ _=>cases h1
          | tup _ _ _ _=>cases h1
        | @tup _ b ys es q2 b2 l2 el2=>
          obtain rfl:ru=Value.ref b:=rr2
          obtain ⟨its2,rv2,pl2,_⟩:=I.tuple (SqT.of q2)
          have pl2:s.heap.IsTuple b its2.toArray:=pl2
          cases r with
          | non=>cases rr;simp only [eqD];exact SeqAt.EqAt.none_tuple pl2 hu'
          | bl x1=>cases rr;simp only [eqD];exact SeqAt.EqAt.bool_tuple _ pl2 hu'
          | int x1=>obtain ⟨t,rfl⟩:=rr;simp only [eqD];exact SeqAt.EqAt.int_tuple _ _ pl2 hu'
          | str x1=>obtain ⟨t,rfl⟩:=rr;simp only [eqD];exact SeqAt.EqAt.str_tuple _ _ pl2 hu'
          | lst _ _ _ _ _=>cases h1
          | tup _ _ _ _=>cases h1
        | _=>cases h2
    | true=>
      cases r with
      | @lst _ a xs ds q1 f1 b1 l1 el1=>
        obtain rfl:rv=Value.ref a:=rr
        obtain ⟨its,rv1,pl,_⟩:=I.list (SqL.of q1)
        have k1:=rv1.length
        cases r2 with
        | @lst _ b ys es q2 f2 b2 l2 el2=>
          obtain rfl:ru=Value.ref b:=rr2
          obtain ⟨its2,rv2,pl2,_⟩:=I.list (SqL.of q2)
          have k2:=rv2.length
          by_cases hab:a=b
          · subst hab
            have e:=(Rp.lst (n:=n) q1 f1 b1 l1 el1).inj (Rp.lst (n:=n) q2 f2 b2 l2 el2)
            rw [e,eqD_refl]
            exact SeqAt.EqAt.same _
          · refine SeqAt.EqAt.of_refs hab ?_
            simp only [eqD]
            by_cases hl:ds.length=es.length
            · rw [eqDs_all hl]
              have q:=SeqAt.RcAt.lists (A:=A) (e:=fun i=>eqD (ds.getD i .non) (es.getD i .non)) pl.isList pl2.isList (by simp;omega) hu' (at_item rv1 rv2 l1 l2 el1 el2 fun r r2 rr rr2=>ih r r2 rr rr2 (by rw [in1_units];omega))
              rw [show its.toArray.size=ds.length by simp;omega] at q
              exact q
            · rw [eqDs_len hl]
              exact SeqAt.RcAt.lists_lengths pl.isList pl2.isList (by simp;omega) hu'
        | @tup _ b ys es q2 b2 l2 el2=>
          obtain rfl:ru=Value.ref b:=rr2
          obtain ⟨its2,rv2,pl2,_⟩:=I.tuple (SqT.of q2)
          simp only [eqD]
          exact SeqAt.EqAt.list_tuple pl.isList (show s.heap.IsTuple b its2.toArray from pl2) hu'
        | non=>cases rr2;simp only [eqD];exact SeqAt.EqAt.list_none pl.isList hu'
        | bl x1=>cases rr2;simp only [eqD];exact SeqAt.EqAt.list_bool _ pl.isList hu'
        | int x1=>obtain ⟨t,rfl⟩:=rr2;simp only [eqD];exact SeqAt.EqAt.list_int _ _ pl.isList hu'
        | str x1=>obtain ⟨t,rfl⟩:=rr2;simp only [eqD];exact SeqAt.EqAt.list_str _ _ pl.isList hu'
      | @tup _ a xs ds q1 b1 l1 el1=>
        obtain rfl:rv=Value.ref a:=rr
        obtain ⟨its,rv1,pl,_⟩:=I.tuple (SqT.of q1)
        have pl:s.heap.IsTuple a its.toArray:=pl
        have k1:=rv1.length
        cases r2 with
        | @tup _ b ys es q2 b2 l2 el2=>
          obtain rfl:ru=Value.ref b:=rr2
          obtain ⟨its2,rv2,pl2,_⟩:=I.tuple (SqT.of q2)
          have pl2:s.heap.IsTuple b its2.toArray:=pl2
          have k2:=rv2.length
          by_cases hab:a=b
          · subst hab
            have e:=(Rp.tup (n:=n) (F:=F) q1 b1 l1 el1).inj (Rp.tup (n:=n) (F:=G) q2 b2 l2 el2)
            rw [e,eqD_refl]
            exact SeqAt.EqAt.same _
          · refine SeqAt.EqAt.of_refs hab ?_
            simp only [eqD]
            have q:=SeqAt.RcAt.tuples (A:=A) (e:=fun i=>eqD (ds.getD i .non) (es.getD i .non)) pl pl2 hu' (at_item rv1 rv2 l1 l2 el1 el2 fun r r2 rr rr2=>ih r r2 rr rr2 (by rw [in1_units];omega))
            have e1:its.toArray.size=ds.length:=by simp;omega
            have e2:its2.toArray.size=es.length:=by simp;omega
            rw [e1,e2] at q
            by_cases hl:ds.length=es.length
            · rw [eqDs_all hl]
              rw [← hl,Nat.min_self,beq_self_eq_true,Bool.and_true] at q
              exact q
            · rw [eqDs_len hl]
              rw [beq_eq_false_iff_ne.mpr hl,Bool.and_false] at q
              exact q
        | @lst _ b ys es q2 f2 b2 l2 el2=>
          obtain rfl:ru=Value.ref b:=rr2
          obtain ⟨its2,rv2,pl2,_⟩:=I.list (SqL.of q2)
          simp only [eqD]
          exact SeqAt.EqAt.tuple_list pl pl2.isList hu'
        | non=>cases rr2;simp only [eqD];exact SeqAt.EqAt.tuple_none pl hu'
        | bl x1=>cases rr2;simp only [eqD];exact SeqAt.EqAt.tuple_bool _ pl hu'
        | int x1=>obtain ⟨t,rfl⟩:=rr2;simp only [eqD];exact SeqAt.EqAt.tuple_int _ _ pl hu'
        | str x1=>obtain ⟨t,rfl⟩:=rr2;simp only [eqD];exact SeqAt.EqAt.tuple_str _ _ pl hu'
      | _=>cases h1
noncomputable def rEqD (neg:Bool):R2:=fun x y H Q=>∃ (n:Nat) (d e:Dt),n≤30∧Rp H FT n x d∧Rp H FT n y e∧(isLst d&&isLst e||isTup d&&isTup e)=true∧Q (.bl (if neg then !eqD d e else eqD d e)) H
theorem op_eqD (hu:X.A.units+64<cLine):OpR X (compareOp .Eq) (rEqD false):=by
  intro pins s σ H x y v u Q I rx ry h
  obtain ⟨n,d,e,hn,r,r2,hs,q⟩:=h
  cases r with
  | @lst m a xs ds q1 f1 b1 l1 el1=>
    cases r2 with
    | @lst _ b ys es q2 f2 b2 l2 el2=>
      obtain rfl:v=Value.ref a:=rx
      obtain rfl:u=Value.ref b:=ry
      obtain ⟨its,rv1,pl,_⟩:=I.list (SqL.of q1)
      obtain ⟨its2,rv2,pl2,_⟩:=I.list (SqL.of q2)
      have k1:=rv1.length
      have k2:=rv2.length
      have q:Q (.bl (eqDs ds es)) H:=by
        have q:=q
        unfold eqD at q
        exact q
      by_cases hl:ds.length=es.length
      · refine SeqAt.eq_listAt (e:=fun i=>eqD (ds.getD i .non) (es.getD i .non)) pl.isList pl2.isList (by simp;omega) (by omega) (at_item rv1 rv2 l1 l2 el1 el2 fun r r2 rr rr2=>eqAt_D I r r2 rr rr2 (by rw [in1_units];omega)) ⟨.bl _,H,I,rfl,?_⟩
        rw [show its.toArray.size=ds.length by simp;omega, ← eqDs_all hl]
        exact q
      · refine SeqAt.eq_list_lengthsAt pl.isList pl2.isList (by simp;omega) (by omega) ⟨.bl _,H,I,rfl,?_⟩
        rw [← eqDs_len hl]
        exact q
    | _=>cases hs
  | @tup m a xs ds q1 b1 l1 el1=>
    cases r2 with
    | @tup _ b ys es q2 b2 l2 el2=>
      obtain rfl:v=Value.ref a:=rx
      obtain rfl:u=Value.ref b:=ry
      obtain ⟨its,rv1,pl,_⟩:=I.tuple (SqT.of q1)
      obtain ⟨its2,rv2,pl2,_⟩:=I.tuple (SqT.of q2)
      have k1:=rv1.length
      have k2:=rv2.length
      have q:Q (.bl (eqDs ds es)) H:=by
        have q:=q
        unfold eqD at q
        exact q
      refine SeqAt.eq_tupleAt (e:=fun i=>eqD (ds.getD i .non) (es.getD i .non)) (show s.heap.IsTuple a its.toArray from pl) (show s.heap.IsTuple b its2.toArray from pl2) (by omega) (at_item rv1 rv2 l1 l2 el1 el2 fun r r2 rr rr2=>eqAt_D I r r2 rr rr2 (by rw [in1_units];omega)) ⟨.bl _,H,I,rfl,?_⟩
      have e1:its.toArray.size=ds.length:=by simp;omega
      have e2:its2.toArray.size=es.length:=by simp;omega
      rw [e1,e2]
      by_cases hl:ds.length=es.length
      · rw [← hl,Nat.min_self,beq_self_eq_true,Bool.and_true, ← eqDs_all hl]
        exact q
      · rw [beq_eq_false_iff_ne.mpr hl,Bool.and_false, ← eqDs_len hl]
        exact q
    | _=>cases hs
  | _=>cases hs
theorem op_neD (hu:X.A.units+64<cLine):OpR X (compareOp .NotEq) (rEqD true):=by
  intro pins s σ H x y v u Q I rx ry h
  obtain ⟨n,d,e,hn,r,r2,hs,q⟩:=h
  cases r with
  | @lst m a xs ds q1 f1 b1 l1 el1=>
    cases r2 with
    | @lst _ b ys es q2 f2 b2 l2 el2=>
      obtain rfl:v=Value.ref a:=rx
      obtain rfl:u=Value.ref b:=ry
      obtain ⟨its,rv1,pl,_⟩:=I.list (SqL.of q1)
      obtain ⟨its2,rv2,pl2,_⟩:=I.list (SqL.of q2)
      have k1:=rv1.length
      have k2:=rv2.length
      have q:Q (.bl (!eqDs ds es)) H:=by
        have q:=q
        unfold eqD at q
        exact q
      by_cases hl:ds.length=es.length
      · refine SeqAt.RcNeAt.lists (e:=fun i=>eqD (ds.getD i .non) (es.getD i .non)) pl.isList pl2.isList (by simp;omega) (by omega) (at_item rv1 rv2 l1 l2 el1 el2 fun r r2 rr rr2=>eqAt_D I r r2 rr rr2 (by rw [in1_units];omega)) _ _ _ _ ⟨.bl _,H,I,rfl,?_⟩
        rw [show its.toArray.size=ds.length by simp;omega, ← eqDs_all hl]
        exact q
      · refine SeqAt.RcNeAt.lists_lengths pl.isList pl2.isList (by simp;omega) (by omega) _ _ _ _ ⟨.bl _,H,I,rfl,?_⟩
        rw [eqDs_len hl] at q
        exact q
    | _=>cases hs
  | @tup m a xs ds q1 b1 l1 el1=>
    cases r2 with
    | @tup _ b ys es q2 b2 l2 el2=>
      obtain rfl:v=Value.ref a:=rx
      obtain rfl:u=Value.ref b:=ry
      obtain ⟨its,rv1,pl,_⟩:=I.tuple (SqT.of q1)
      obtain ⟨its2,rv2,pl2,_⟩:=I.tuple (SqT.of q2)
      have k1:=rv1.length
      have k2:=rv2.length
      have q:Q (.bl (!eqDs ds es)) H:=by
        have q:=q
        unfold eqD at q
        exact q
      refine SeqAt.RcNeAt.tuples (e:=fun i=>eqD (ds.getD i .non) (es.getD i .non)) (show s.heap.IsTuple a its.toArray from pl) (show s.heap.IsTuple b its2.toArray from pl2) (by omega) (at_item rv1 rv2 l1 l2 el1 el2 fun r r2 rr rr2=>eqAt_D I r r2 rr rr2 (by rw [in1_units];omega)) _ _ _ _ ⟨.bl _,H,I,rfl,?_⟩
      have e1:its.toArray.size=ds.length:=by simp;omega
      have e2:its2.toArray.size=es.length:=by simp;omega
      rw [e1,e2]
      by_cases hl:ds.length=es.length
      · rw [← hl,Nat.min_self,beq_self_eq_true,Bool.and_true, ← eqDs_all hl]
        exact q
      · rw [beq_eq_false_iff_ne.mpr hl,Bool.and_false, ← eqDs_len hl]
        exact q
    | _=>cases hs
  | _=>cases hs
end
end L2
namespace L2
open PySem PySem.Spec PyProof.Rows
noncomputable abbrev dN (n:Nat):Dt:= .int (n:Nat)
noncomputable def dL (ns:List Nat):Dt:= .lst (ns.map dN)
noncomputable def dT (ns:List Nat):Dt:= .tup (ns.map dN)
noncomputable def dS (zs:List Str):Dt:= .lst (zs.map .str)
noncomputable def dST (zs:List Str):Dt:= .tup (zs.map .str)
noncomputable def dLL (ls:List (List Nat)):Dt:= .lst (ls.map dL)
noncomputable def dTT (ls:List (List Nat)):Dt:= .tup (ls.map dT)
section
variable {H:Hp} {F:Addr→Prop} {n:Nat} {v:V}
theorem vals_map {α:Type} {f:α→V} {g:α→Dt} (uniq:∀ (a:α) (v:V),Rp H F n v (g a)→v=f a) {vs:List V} {as:List α} (l:vs.length=(as.map g).length)
    (e:∀ (i:Nat) (v:V) (d:Dt),vs[i]?=some v→(as.map g)[i]?=some d→Rp H F n v d):vs=as.map f:=by
  refine List.ext_getElem (by simpa using l) fun i h1 h2=> ?_
  have h3:i<as.length:=by simpa using h2
  rw [List.getElem_map]
  exact uniq _ _ (e i vs[i] (g as[i]) (by simp [h1]) (by simp [h3]))
theorem uniq_n (a:Nat) (v:V) (r:Rp H F n v (dN a)):v=nV a:=by cases r;rfl
theorem uniq_s (a:Str) (v:V) (r:Rp H F n v (.str a)):v= .str a:=by cases r;rfl
theorem dL_of {ns:List Nat} (r:Rp H F n v (dL ns)):∃ a,v= .ref a∧H a=some (.lst (ns.map nV))∧F a∧ns.length≤100000:=by
  unfold dL at r
  cases r with
  | @lst m a vs _ h f b l e=>
    have q:=vals_map (f:=nV) (fun a v r=>uniq_n a v r) l e
    subst q
    exact ⟨a,rfl,h,f,by simpa using b⟩
theorem dT_of {ns:List Nat} (r:Rp H F n v (dT ns)):∃ a,v= .ref a∧H a=some (.tup (ns.map nV))∧ns.length≤100000:=by
  unfold dT at r
  cases r with
  | @tup m a vs _ h b l e=>
    have q:=vals_map (f:=nV) (fun a v r=>uniq_n a v r) l e
    subst q
    exact ⟨a,rfl,h,by simpa using b⟩
theorem dS_of {zs:List Str} (r:Rp H F n v (dS zs)):∃ a,v= .ref a∧H a=some (.lst (zs.map V.str))∧F a∧zs.length≤100000:=by
  unfold dS at r
  cases r with
  | @lst m a vs _ h f b l e=>
    have q:=vals_map (f:=V.str) (fun a v r=>uniq_s a v r) l e
    subst q
    exact ⟨a,rfl,h,f,by simpa using b⟩
theorem dST_of {zs:List Str} (r:Rp H F n v (dST zs)):∃ a,v= .ref a∧H a=some (.tup (zs.map V.str))∧zs.length≤100000:=by
  unfold dST at r
  cases r with
  | @tup m a vs _ h b l e=>
    have q:=vals_map (f:=V.str) (fun a v r=>uniq_s a v r) l e
    subst q
    exact ⟨a,rfl,h,by simpa using b⟩
theorem rp_map {α:Type} {f:α→V} {g:α→Dt} {as:List α} (k:∀ a∈as,Rp H F n (f a) (g a)):∀ (i:Nat) (v:V) (d:Dt),(as.map f)[i]?=some v→(as.map g)[i]?=some d→Rp H F n v d:=by
  intro i v d h1 h2
  rw [List.getElem?_map] at h1 h2
  cases e:as[i]? with
  | none=>rw [e] at h1;cases h1
  | some a=>
    rw [e] at h1 h2
    cases h1
    cases h2
    exact k a (List.mem_of_getElem? e)
theorem rp_L {a:Addr} {ns:List Nat} (h:H a=some (.lst (ns.map nV))) (f:F a) (b:ns.length≤100000):Rp H F (n+1) (.ref a) (dL ns):= .lst h f (by simpa using b) (by simp) (rp_map fun k _=> .int _)
theorem rp_T {a:Addr} {ns:List Nat} (h:H a=some (.tup (ns.map nV))) (b:ns.length≤100000):Rp H F (n+1) (.ref a) (dT ns):= .tup h (by simpa using b) (by simp) (rp_map fun k _=> .int _)
theorem rp_S {a:Addr} {zs:List Str} (h:H a=some (.lst (zs.map V.str))) (f:F a) (b:zs.length≤100000):Rp H F (n+1) (.ref a) (dS zs):= .lst h f (by simpa using b) (by simp) (rp_map fun k _=> .str _)
theorem rp_ST {a:Addr} {zs:List Str} (h:H a=some (.tup (zs.map V.str))) (b:zs.length≤100000):Rp H F (n+1) (.ref a) (dST zs):= .tup h (by simpa using b) (by simp) (rp_map fun k _=> .str _)
theorem lst_of {ds:List Dt} (r:Rp H F n v (.lst ds)):∃ m a vs,n=m+1∧v= .ref a∧H a=some (.lst vs)∧F a∧vs.length=ds.length∧vs.length≤100000∧∀ i,i<ds.length→Rp H F m (vs.getD i .non) (ds.getD i .non):=by
  cases r with
  | @lst m a vs _ h f b l e=>
    refine ⟨m,a,vs,rfl,rfl,h,f,l,b,fun i hi=>e i _ _ ?_ ?_⟩
    · rw [List.getD_eq_getElem?_getD,List.getElem?_eq_getElem (by omega)];rfl
    · rw [List.getD_eq_getElem?_getD,List.getElem?_eq_getElem hi];rfl
theorem tup_of {ds:List Dt} (r:Rp H F n v (.tup ds)):∃ m a vs,n=m+1∧v= .ref a∧H a=some (.tup vs)∧vs.length=ds.length∧vs.length≤100000∧∀ i,i<ds.length→Rp H F m (vs.getD i .non) (ds.getD i .non):=by
  cases r with
  | @tup m a vs _ h b l e=>
    refine ⟨m,a,vs,rfl,rfl,h,l,b,fun i hi=>e i _ _ ?_ ?_⟩
    · rw [List.getD_eq_getElem?_getD,List.getElem?_eq_getElem (by omega)];rfl
    · rw [List.getD_eq_getElem?_getD,List.getElem?_eq_getElem hi];rfl
theorem getD_map {α β:Type} (f:α→β) (as:List α) (i:Nat) (x:β) (y:α) (h:i<as.length):(as.map f).getD i x=f (as.getD i y):=by simp [List.getD_eq_getElem?_getD,h]
theorem getD_str {zs:List Str} {i:Nat} (h:i<(zs.map V.str).length):(zs.map V.str).getD i .non= .str (zs.getD i Str.empty):=getD_map V.str zs i .non Str.empty (by simpa using h)
theorem getD_mem {α:Type} {as:List α} {i:Nat} {y:α} (h:i<as.length):as.getD i y∈as:=by
  rw [List.getD_eq_getElem?_getD,List.getElem?_eq_getElem h]
  exact List.getElem_mem h
theorem range_map {α β:Type} (f:α→β) (as:List α) (y:α):(List.range as.length).map (fun i=>f (as.getD i y))=as.map f:=map_range_getD f as y
end
end L2
namespace L2
open PySem PySem.Spec PyProof.Rows
theorem Rp.ins {H:Hp} {F:Addr→Prop} {n:Nat} {v:V} {d:Dt} {x C dx:Addr} {fs:List (Str × V)} {o:HO} (r:Rp H F n v d) (h:H x=some (.ins C dx fs)):Rp (L2.upd H x o) F n v d:=by
  induction r with
  | non=>exact .non
  | bl b=>exact .bl b
  | int i=>exact .int i
  | str z=>exact .str z
  | @lst n a vs ds q f b l e ih=>
    refine .lst ?_ f b l ih
    rw [upd_ne (ne_of q h (by intro z;cases z))]
    exact q
  | @tup n a vs ds q b l e ih=>
    refine .tup ?_ b l ih
    rw [upd_ne (ne_of q h (by intro z;cases z))]
    exact q
noncomputable def But (x:Addr) (H H':Hp):Prop:=∀ b o,H b=some o→b≠x→H' b=some o
theorem But.same {x:Addr} {H H1 H2:Hp} (b:But x H H1) (s:Same H1 H2):But x H H2:=fun a o e n=>s _ _ (b a o e n)
theorem But.of {x:Addr} {H H1:Hp} (s:Same H H1):But x H H1:=fun a o e _=>s _ _ e
theorem But.put {x:Addr} {H H1:Hp} {o:HO} (b:But x H H1):But x H (upd H1 x o):=fun a u e n=>by rw [upd_ne n];exact b a u e n
theorem But.rp {x:Addr} {H H':Hp} {F:Addr→Prop} {n:Nat} {v:V} {d:Dt} {C dx:Addr} {fs:List (Str × V)} (k:But x H H') (h:H x=some (.ins C dx fs)) (r:Rp H F n v d):Rp H' F n v d:=by
  induction r with
  | non=>exact .non
  | bl b=>exact .bl b
  | int i=>exact .int i
  | str z=>exact .str z
  | @lst n a vs ds q f b l e ih=>exact .lst (k _ _ q (ne_of q h (by intro z;cases z))) f b l ih
  | @tup n a vs ds q b l e ih=>exact .tup (k _ _ q (ne_of q h (by intro z;cases z))) b l ih
end L2
namespace L2
open PySem PySem.Spec PyProof.Rows
theorem Rp.tupd {H:Hp} {F:Addr→Prop} {n:Nat} {D t:Addr} {ds:List Dt} {ys:List V} (r:Rp H F (n+1) (.ref D) (.lst ds)) (hl:H D=some (.lst ys)) (ht:H t=none):Rp (L2.upd H t (.tup ys)) F (n+1) (.ref t) (.tup ds):=by
  cases r with
  | @lst _ _ vs _ q f b l ee=>
    rw [hl] at q
    cases q
    exact .tup upd_same b l fun i v e h1 h2=>(ee i v e h1 h2).new ht
theorem map_T (ls:List (List Nat)):(List.range ls.length).map (fun i=>dT (ls.getD i []))=ls.map dT:=map_range_getD dT ls []
theorem map_L (ls:List (List Nat)):(List.range ls.length).map (fun i=>dL (ls.getD i []))=ls.map dL:=map_range_getD dL ls []
end L2
namespace L2
open PySem PySem.Spec PyProof.Rows
section
variable {H:Hp} {a:Addr} {kvs:List (Key × V)}
end
theorem cut_from {xs:List V} {k:Int} (h:0≤k):cutV xs (some k) none=xs.drop k.toNat:=by
  unfold cutV
  have e2:HT.sIx xs.length xs.length none=xs.length:=rfl
  rw [e2]
  have e1:HT.sIx xs.length 0 (some k)=min k.toNat xs.length:=by
    unfold HT.sIx
    simp only
    split <;> omega
  rw [e1]
  by_cases q:k.toNat≤xs.length
  · rw [Nat.min_eq_left q,List.take_of_length_le (by simp)]
  · rw [Nat.min_eq_right (by omega),List.drop_of_length_le (Nat.le_refl _),List.drop_of_length_le (by omega)]
    simp
theorem cut_to {xs:List V} {k:Int} (h:0≤k):cutV xs none (some k)=xs.take k.toNat:=by
  unfold cutV
  have e2:HT.sIx xs.length 0 none=0:=rfl
  rw [e2,List.drop_zero]
  have e1:HT.sIx xs.length xs.length (some k)=min k.toNat xs.length:=by
    unfold HT.sIx
    simp only
    split <;> omega
  rw [e1,Nat.sub_zero]
  by_cases q:k.toNat≤xs.length
  · rw [Nat.min_eq_left q]
  · rw [Nat.min_eq_right (by omega),List.take_of_length_le (Nat.le_refl _),List.take_of_length_le (by omega)]
section
variable {K:PySem.W.Frag} {wi:TI} {own:List Str} {fr:List (Str × Nat)} {g:TG} {tc:TT} {te tl:TE} {tb:TS} {D:Ends} {σ:St} {H:Hp} {Q:VK} {R:It→Hp→Prop} {ta:TA}
theorem rd_comp (h:wi σ H fun J H1=>∀ D,H1 D=none→CompW J (blkSt own fr σ) g tc te Q H1 D):tComp wi own fr g tc te σ H Q:=h
theorem rd_for (h:wi σ H fun J H1=>∃ W:Nat→Nat→St→Hp→Prop,(∃ m,W 0 m σ H1)∧∀ i m σ H,W i m σ H→
  (J.stop i H∧D.nx σ H)∨(J.go i H∧∃ N:St→Hp→Prop,(∀ σ' H',N σ' H'→∃ m',m'<m∧W (i+1) m' σ' H')∧∀ x H',J.yld i H x H'→g x σ H' fun σ2 H2=>tb { D with nx:=N,ct:=N,bk:=D.nx } σ2 H2)):tFor wi g tb D σ H:=h
theorem rd_iL (h:tl σ H fun x H1=>∃ a,x= .ref a∧(∃ xs,SqL K H1 a xs)∧R (Itl K a) H1):iList K tl σ H R:=h
theorem rd_iT (h:tl σ H fun x H1=>∃ a,x= .ref a∧(∃ xs,SqT K H1 a xs)∧R (Itt K a) H1):iTup K tl σ H R:=h
theorem rd_iQ (h:tl σ H fun x H1=>∃ tp a,x= .ref a∧(∃ xs,SqS tp K H1 a xs)∧R (Isq tp K a) H1):iSq K tl σ H R:=h
theorem rd_iE (h:ta σ H fun vs H1=>∃ a,vs=[.ref a]∧(∃ xs,SqL K H1 a xs)∧R (Ite K a) H1):iEnum K ta σ H R:=h
theorem rd_iF (h:ta σ H fun vs H1=>∃ tp a,vs=[.ref a]∧(∃ xs,SqS tp K H1 a xs)∧R (IteS tp K a) H1):iEnumS K ta σ H R:=h
theorem rd_iZ (h:ta σ H fun vs H1=>∃ t1 t2 a b,vs=[.ref a, .ref b]∧(∃ xs,SqS t1 K H1 a xs)∧(∃ ys,SqS t2 K H1 b ys)∧R (Izs t1 t2 K a b) H1):iZs K ta σ H R:=h
theorem rd_i1 (h:ta σ H fun vs H1=>∃ j:Int,vs=[.int j]∧ -(2 ^ 62)≤j∧j<2 ^ 62∧R (Itr 0 j.toNat) H1):iRng1 ta σ H R:=h
theorem rd_i2 (h:ta σ H fun vs H1=>∃ i j:Int,vs=[.int i, .int j]∧(-(2 ^ 62)≤i∧i<2 ^ 62∧ -(2 ^ 62)≤j∧j<2 ^ 62)∧R (Itr i (j - i).toNat) H1):iRng2 ta σ H R:=h
theorem rd_i3 (h:ta σ H fun vs H1=>∃ i j c:Int,vs=[.int i, .int j, .int c]∧(-(2 ^ 40)≤i∧i<2 ^ 40)∧(-(2 ^ 40)≤j∧j<2 ^ 40)∧(-(2 ^ 20)≤c∧c<2 ^ 20)∧c≠0∧R (Itc i c (Builtin.Range.rangeSize i j c).toNat) H1):iRng3 ta σ H R:=h
end
theorem rd_gtup {K:PySem.W.Frag} {n:Nat} {t:TGs} {a:Addr} {xs:List V} {σ:St} {H:Hp} {QS:St→Hp→Prop} (h:SqT K H a xs) (l:xs.length=n) (k:t xs σ H QS):gTup K n t (.ref a) σ H QS:=⟨a,xs,rfl,h,l,k⟩
theorem rd_gcons {t:TG} {u:TGs} {v:V} {vs:List V} {σ:St} {H:Hp} {QS:St→Hp→Prop} (k:t v σ H fun σ' H'=>u vs σ' H' QS):gCons t u (v::vs) σ H QS:=⟨v,vs,rfl,k⟩
theorem rd_gnil {σ:St} {H:Hp} {QS:St→Hp→Prop} (k:QS σ H):gNil [] σ H QS:=⟨rfl,k⟩
theorem for_srcW {J:It} {g:TG} {H0 H:Hp} {n:Nat} {set:Nat→St→St} {tb:TS} {D:Ends} {σ:St} (S:FSrc J g H0 n set) (Pv:Nat→St→Hp→Prop) (h0:Pv 0 σ H) (hk:∀ i σ H',Pv i σ H'→Same H0 H')
    (hs:∀ i σ H' H3,i<n→Pv i σ H'→Same H' H3→tb { D with nx:=Pv (i+1),ct:=Pv (i+1),bk:=D.nx } (set i σ) H3) (hd:∀ σ H',Pv n σ H'→D.nx σ H'):
    ∃ W:Nat→Nat→St→Hp→Prop,(∃ m,W 0 m σ H)∧∀ i m σ H,W i m σ H→
      (J.stop i H∧D.nx σ H)∨(J.go i H∧∃ N:St→Hp→Prop,(∀ σ' H',N σ' H'→∃ m',m'<m∧W (i+1) m' σ' H')∧∀ x H',J.yld i H x H'→g x σ H' fun σ2 H2=>tb { D with nx:=N,ct:=N,bk:=D.nx } σ2 H2):=by
  refine ⟨fun i m σ H'=>m=n - i∧i≤n∧Pv i σ H',⟨n,by simp,Nat.zero_le _,h0⟩,?_⟩
  rintro i m σ H1 ⟨rfl,hi,p⟩
  by_cases hlt:i<n
  · exact .inr ⟨S.go i H1 hlt (hk _ _ _ p),Pv (i+1),fun σ' H' p'=>⟨n - (i+1),by omega,rfl,hlt,p'⟩,fun x H' y=>S.yld i σ H1 x H' _ hlt (hk _ _ _ p) y fun H3 s3=>hs i σ H1 H3 hlt p s3⟩
  · have e:i=n:=by omega
    subst e
    exact .inl ⟨S.stop H1 (hk _ _ _ p),hd σ H1 p⟩
theorem fs_range0 {H:Hp} {i1 n:Nat}:FSrc (Itr 0 n) (gName i1) H n (fun i σ=>σ.set i1 (some (.int (i:Nat)))):=by
  have:=fs_range (H:=H) (i1:=i1) (lo:=0) (n:=n)
  simpa using this
theorem src_range0 {n:Nat} {σ0:St} {H:Hp} (h0:σ0[0]?=some none):SrcOk (Itr 0 n) (gName 0) σ0 H n (fun i=>σ0.set 0 (some (.int (i:Nat)))):=by
  have:=src_range (H:=H) (lo:=0) (n:=n) h0
  simpa using this
theorem rp_two {H:Hp} {F:Addr→Prop} {n:Nat} {a:Addr} {x y:V} {d e:Dt} (h:H a=some (.lst [x,y])) (f:F a) (r1:Rp H F n x d) (r2:Rp H F n y e):Rp H F (n+1) (.ref a) (.lst [d,e]):=by
  refine .lst h f (by simp) rfl fun i v u h1 h2=> ?_
  match i with
  | 0=>cases h1;cases h2;exact r1
  | 1=>cases h1;cases h2;exact r2
  | i+2=>cases h1
theorem rp_twoT {H:Hp} {F:Addr→Prop} {n:Nat} {a:Addr} {x y:V} {d e:Dt} (h:H a=some (.tup [x,y])) (r1:Rp H F n x d) (r2:Rp H F n y e):Rp H F (n+1) (.ref a) (.tup [d,e]):=by
  refine .tup h (by simp) rfl fun i v u h1 h2=> ?_
  match i with
  | 0=>cases h1;cases h2;exact r1
  | 1=>cases h1;cases h2;exact r2
  | i+2=>cases h1
theorem iteNF {A B:Prop} (h:B):if (!true)=true then A else B:=by simpa using h
end L2
namespace L2
open PySem PySem.Spec PyProof.Rows
theorem rp_tup7 {H:Hp} {F:Addr→Prop} {n:Nat} {a:Addr} {v0 v1 v2 v3 v4 v5 v6:V} {d0 d1 d2 d3 d4 d5 d6:Dt} (h:H a=some (.tup [v0,v1,v2,v3,v4,v5,v6])) (r0:Rp H F n v0 d0) (r1:Rp H F n v1 d1) (r2:Rp H F n v2 d2) (r3:Rp H F n v3 d3) (r4:Rp H F n v4 d4) (r5:Rp H F n v5 d5) (r6:Rp H F n v6 d6):
    Rp H F (n+1) (.ref a) (.tup [d0,d1,d2,d3,d4,d5,d6]):=by
  refine .tup h (by simp) rfl fun i v u h1 h2=> ?_
  match i with
  | 0=>cases h1;cases h2;exact r0
  | 1=>cases h1;cases h2;exact r1
  | 2=>cases h1;cases h2;exact r2
  | 3=>cases h1;cases h2;exact r3
  | 4=>cases h1;cases h2;exact r4
  | 5=>cases h1;cases h2;exact r5
  | 6=>cases h1;cases h2;exact r6
  | i+7=>cases h1
theorem len_cons {α:Type} {xs:List α} {n:Nat} (h:xs.length=n+1):∃ x ys,xs=x::ys∧ys.length=n:=by
  cases xs with
  | nil=>cases h
  | cons x ys=>exact ⟨x,ys,rfl,Nat.succ.inj h⟩
theorem tup7_of {H:Hp} {F:Addr→Prop} {n:Nat} {v:V} {d0 d1 d2 d3 d4 d5 d6:Dt} (r:Rp H F n v (.tup [d0,d1,d2,d3,d4,d5,d6])):∃ m a v0 v1 v2 v3 v4 v5 v6,n=m+1∧v= .ref a∧H a=some (.tup [v0,v1,v2,v3,v4,v5,v6])∧
    Rp H F m v0 d0∧Rp H F m v1 d1∧Rp H F m v2 d2∧Rp H F m v3 d3∧Rp H F m v4 d4∧Rp H F m v5 d5∧Rp H F m v6 d6:=by
  cases r with
  | @tup m a vs _ h b l e=>
    replace l:vs.length=7:=l
    obtain ⟨v0,w0,rfl,l0⟩:=len_cons l
    obtain ⟨v1,w1,rfl,l1⟩:=len_cons l0
    obtain ⟨v2,w2,rfl,l2⟩:=len_cons l1
    obtain ⟨v3,w3,rfl,l3⟩:=len_cons l2
    obtain ⟨v4,w4,rfl,l4⟩:=len_cons l3
    obtain ⟨v5,w5,rfl,l5⟩:=len_cons l4
    obtain ⟨v6,w6,rfl,l6⟩:=len_cons l5
    cases List.eq_nil_of_length_eq_zero l6
    exact ⟨m,a,v0,v1,v2,v3,v4,v5,v6,rfl,rfl,h,e 0 _ _ rfl rfl,e 1 _ _ rfl rfl,e 2 _ _ rfl rfl,e 3 _ _ rfl rfl,e 4 _ _ rfl rfl,e 5 _ _ rfl rfl,e 6 _ _ rfl rfl⟩
end L2
namespace L2
open PySem PySem.Spec PyProof.Rows
theorem ifJ {c:TT} {t u:TS} {D:Ends} {σ:St} {H:Hp} (J:St→Hp→Prop) (h1:∀ σ' H',J σ' H'→D.nx σ' H') (h2:(∀ σ' H',J σ' H'→D.nx σ' H')→tIfS c t u D σ H):tIfS c t u D σ H:=h2 h1
theorem dLL_map {α:Type} (f:α→List Nat) (xs:List α):Dt.lst (xs.map fun x=>dL (f x))=dLL (xs.map f):=by unfold dLL;rw [List.map_map];rfl
theorem dL_map {α:Type} (f:α→Nat) (xs:List α):Dt.lst (xs.map fun x=>dN (f x))=dL (xs.map f):=by unfold dL;rw [List.map_map];rfl
theorem dS_map {α:Type} (f:α→Str) (xs:List α):Dt.lst (xs.map fun x=>Dt.str (f x))=dS (xs.map f):=by unfold dS;rw [List.map_map];rfl
end L2
namespace L2
open PySem PySem.Spec PyProof.Rows
theorem inV_nat (s:Nat) (ns:List Nat):inV (nV s) (ns.map nV)=decide (s∈ns):=by
  unfold inV
  rw [Bool.eq_iff_iff,List.any_eq_true,decide_eq_true_eq]
  constructor
  · rintro ⟨y,hy,e⟩
    obtain ⟨k,hk,rfl⟩:=List.mem_map.mp hy
    have e:((k:Nat):Int)=(s:Nat):=by simpa [eqV] using e
    have:k=s:=by omega
    exact this▸hk
  · intro h
    exact ⟨nV s,List.mem_map.mpr ⟨s,h,rfl⟩,by simp [eqV]⟩
theorem flat_nat (ns:List Nat):(ns.map nV).all flatV=true:=by simp [flatV]
theorem rd_inN {K:PySem.W.Frag} {H:Hp} {Q:VK} {tp:Bool} {p:Addr} {s:Nat} {ns:List Nat} (c:SqS tp K H p (ns.map nV)) (h:Q (.bl (decide (s∈ns))) H):rIn K false (nV s) (.ref p) H Q:=by
  refine ⟨p,_,rfl,?_,rfl,flat_nat ns,by rw [inV_nat];exact h⟩
  cases tp with
  | false=>exact .inl c
  | true=>exact .inr c
theorem atI_get' {vs:List V} {k:Int} {j:Nat} (e:k=j) (h:j<vs.length):atI vs k=some (vs.getD j .non):=by
  subst e
  refine atI_nat ?_
  rw [List.getD_eq_getElem?_getD,List.getElem?_eq_getElem h]
  rfl
end L2
namespace L2
theorem getD_el {α:Type} {as:List α} {i:Nat} {y:α} (h:i<as.length):as.getD i y=as[i]:=by
  rw [List.getD_eq_getElem?_getD,List.getElem?_eq_getElem h]
  rfl
end L2
namespace L2
open PySem PySem.Spec PyProof.Rows
theorem ofB_t {f:Nat→Bool} {w:Nat} (h:f w=true):MM.ofB f (w+1)=MM.ofB f w+2 ^ w:=by
  show MM.ofB f w+(f w).toNat*2 ^ w=_
  rw [h,Bool.toNat_true,Nat.one_mul]
theorem ofB_f {f:Nat→Bool} {w:Nat} (h:f w=false):MM.ofB f (w+1)=MM.ofB f w:=by
  show MM.ofB f w+(f w).toNat*2 ^ w=_
  rw [h,Bool.toNat_false,Nat.zero_mul,Nat.add_zero]
end L2
namespace L2
open PySem PySem.Spec PyProof.Rows
theorem range_getD {n j y:Nat} (h:j<n):(List.range n).getD j y=j:=by
  rw [getD_el (by simpa using h),List.getElem_range]
theorem getD_rmap {α:Type} (f:Nat→α) {n j:Nat} {y:α} (h:j<n):((List.range n).map f).getD j y=f j:=by
  rw [getD_map f (List.range n) j y 0 (by simpa using h),range_getD h]
noncomputable def CDivL (i j:Int):Prop:=0<j∧j<2 ^ 200
theorem log_small {j:Int} (h0:0<j) (h:j<2 ^ 200):j.natAbs.log2<9000:=by
  have h1:j.natAbs<2 ^ 200:=by omega
  have:=(Nat.log2_lt (show j.natAbs≠0 by omega)).mpr h1
  omega
theorem op_fdivL {X:Cx}:OpR X (binaryOp .FloorDiv) (rI CDivL fun i j=> .int (i / j)):=opI fun i j _ _ _ _ _ hc q=>by
  rw [← Int.fdiv_eq_ediv_of_nonneg i (by have:=hc.1;omega)] at q
  exact floordiv_int (by have:=hc.1;omega) q (.inl (PyProof.noPylong_of_log2 (log_small hc.1 hc.2)))
end L2
namespace L2
open PySem PySem.Spec PyProof.Rows
section
variable {prog:Program} {w:World} {A:Around} {E:Value→Shared→Prop} {s:Shared} {T:String} {r d:Addr} {n:Nat} {P:Nat→Value→Prop} {St:Nat→Heap→Prop}
end
section
variable {prog:Program} {w:World} {A:Around} {E:Value→Shared→Prop} {s:Shared}
end
section
variable {X:Cx} {K:PySem.W.Frag} {e o:Expr} {ta:TA} {to:TE} {p p2 pos pos2 apos cpos:Pos}
end
end L2
namespace L2
open PySem PySem.Spec PyProof.Rows
section
variable {X:Cx} {K:PySem.W.Frag} {e o:Expr} {es:List Expr} {ta to:TE} {t:TA} {f name:Str} {pos apos cpos:Pos} {T id:String} {r:V→List V→Hp→VK→Prop}
theorem k_fld (he:PE X e ta) (hb:attributeBase e f X.env (eval e X.env)=eval e X.env) (hK:X.K=K:=by rfl):PE X (.Attribute e f pos) (tFld K ta f):=by
  subst hK
  exact pe_fld he hb
theorem kx_bm0 (pa:PlainAttrs T) (slot:Slot T name id) (hty:typeOf (.builtin id)=pure (.type "method_descriptor")) (hm:MtR X id r) (ho:PE X o to) (hK:X.K=K:=by rfl)
    (hbase:attributeBase o name X.env (eval o X.env)=eval o X.env:=by rfl) (hline:(apos.endLine == cpos.line)=true:=by rfl):PE X (.Call (.Attribute o name apos) [] [] cpos) (tBM0 K T r to):=by
  subst hK
  exact pe_bm0 pa slot hty hm ho hbase hline
theorem kx_bm (pa:PlainAttrs T) (slot:Slot T name id) (hty:typeOf (.builtin id)=pure (.type "method_descriptor")) (hm:MtR X id r) (ho:PE X o to) (ha:PA X (e::es) t) (hK:X.K=K:=by rfl)
    (hbase:attributeBase o name X.env (eval o X.env)=eval o X.env:=by rfl)
    (hfew:((backTo cpos (starEach (e::es) X.env)).all (fun x=> !x.1)&&(backToKw cpos (keywordEach [] X.env)).all (fun x=>x.1.isSome)
      && decide ((e::es).length+([]:List Keyword).length+(if ([]:List Keyword).isEmpty then 0 else 1)<30))=true:=by rfl)
    (hline:(apos.endLine == cpos.line)=true:=by rfl) (hs:starEach (e::es) X.env=(false,eval e X.env)::starEach es X.env:=by rfl) (hplain:(backTo cpos (starEach es X.env)).any (·.1)=false:=by rfl):
    PE X (.Call (.Attribute o name apos) (e::es) [] cpos) (tBM K T r to t):=by
  subst hK
  exact pe_bm pa slot hty hm ho ha hbase hfew hline hs hplain
end
end L2
namespace L2
open PySem PySem.Spec PyProof.Rows
section
variable {prog:Program} {w:World} {A:Around} {E:Value→Shared→Prop} {s:Shared}
end
section
variable {X:Cx} {K:PySem.W.Frag} {e o:Expr} {ta:TA} {to:TE} {p p2 pos pos2 apos cpos:Pos}
end
section
variable {X:Cx} {k:Nat} {e o:Expr} {es:List Expr} {t:TA} {to:TE} {pos:Pos} {S:Addr→Sp→Prop}
end
theorem arg1 {α:Type} {P:List α→Prop} (h:∀ a0,P [a0]):∀ us:List α,us.length=1→P us:=fun us hl=>match us,hl with | [a0],_=>h a0
theorem arg2 {α:Type} {P:List α→Prop} (h:∀ a0 a1,P [a0,a1]):∀ us:List α,us.length=2→P us:=fun us hl=>match us,hl with | [a0,a1],_=>h a0 a1
theorem arg3 {α:Type} {P:List α→Prop} (h:∀ a0 a1 a2,P [a0,a1,a2]):∀ us:List α,us.length=3→P us:=fun us hl=>match us,hl with | [a0,a1,a2],_=>h a0 a1 a2
theorem arg7 {α:Type} {P:List α→Prop} (h:∀ a0 a1 a2 a3 a4 a5 a6,P [a0,a1,a2,a3,a4,a5,a6]):∀ us:List α,us.length=7→P us:=fun us hl=>match us,hl with | [a0,a1,a2,a3,a4,a5,a6],_=>h a0 a1 a2 a3 a4 a5 a6
theorem arg8 {α:Type} {P:List α→Prop} (h:∀ a0 a1 a2 a3 a4 a5 a6 a7,P [a0,a1,a2,a3,a4,a5,a6,a7]):∀ us:List α,us.length=8→P us:=fun us hl=>match us,hl with | [a0,a1,a2,a3,a4,a5,a6,a7],_=>h a0 a1 a2 a3 a4 a5 a6 a7
end L2
namespace L2
open PySem PySem.Spec PyProof.Rows
structure BlkScopeC (X:Cx) (scope:Scope) (cx:Str) (own:List Str) (fr:List (Str × Nat)):Prop where
  kind:scope.kind= .function
  onec:∀ y∈scope.names,y.2= .cell→y.1=cx
  isc:scope.names.lookup cx=some .cell
  lay:∀ n cl,cellsFrom n scope.names cl=(cx,n)::cl
  push:∀ h:Heap,pushCells h scope.names=h.push { cls:= .type "cell",data:= .cell none }
  loc:∀ y∈scope.names,y.2= .local→scope.names.lookup y.1=some .local
  free:∀ y∈scope.names,y.2= .free→(X.env.scope.names.lookup y.1=some .cell∨X.env.scope.names.lookup y.1=some .free)
  fr:∀ p∈fr,X.N[p.2]?=some p.1∧(p.1,NameKind.free)∈scope.names
  only:∀ x,(x,NameKind.free)∈scope.names→scope.names.lookup x=some .free
section
variable {X:Cx} {pins:List (Addr × Obj)} {σ:St} {H:Hp} {s:Shared} {scope:Scope} {cx:Str} {own:List Str} {fr:List (Str × Nat)} {fp:List Addr}
end
section
variable {X:Cx}
end
section
variable {X:Cx} {scope:Scope} {cx:Str} {own:List Str} {fr:List (Str × Nat)}
end
end L2
namespace L2
open PySem PySem.Spec PyProof.Rows
section
variable {X:Cx} {K:PySem.W.Frag} {scope:Scope} {fr:List (Str × Nat)}
end
end L2
namespace L2
open PySem PySem.Spec PyProof.Rows
section
variable {X:Cx} {e o:Expr} {es:List Expr} {t:TA} {to:TE} {pos:Pos} {S:Addr→Sp→Prop}
end
end L2
namespace L2
open PySem PySem.Spec PyProof.Rows
section
variable {X:Cx} {K:PySem.W.Frag}
end
end L2
namespace HT
open PySem PySem.Spec PyProof.Rows
variable {prog:Program} {w:World} {A:Around} {E:Value→Shared→Prop} {s:Shared}
theorem getItem_tuple_whole {t sl:Addr} {items:Array Value} {vl vu:Value} {lo hi:Option Int} {Q:Value→Shared→Prop} (ht:IsTup s.heap t items) (hs:s.heap.IsSliceOf sl vl vu .none) (pl:IsPart vl lo) (pu:IsPart vu hi)
    (w1:sIx items.size 0 lo=0) (w2:sIx items.size items.size hi=items.size) (h:Q (.ref t) s):wpAny (model prog w) A (getItem (.ref t) (.ref sl)) Q E s:=by
  obtain ⟨os,hos,hcs,hds⟩:=id hs
  have hTs:s.TypeIs (.ref sl) "slice":=⟨os,hos,hcs⟩
  unfold getItem
  try with_reducible refine wpAny_holding ?_
  first | refine wpAny_bind (wpAny_pure ?_) | skip
  refine wpAny_bind (wpAny_sequenceKey ht.typeIs (by decide) ?_)
  refine wpAny_bind (wpAny_callSpecial?_slot (name:=Str.ofString "__getitem__") ht.typeIs PyProof.Rows.slot_tuple_getitem
    (wpAny_call_entry PyProof.Rows.slot_tuple_getitem ht.typeIs entry_tuple_getitem ?_ (args_tuple_getitem _ _)))
  show wpAny _ _ (Builtin.Tuple.tupleItemsOf (.ref t) >>= _) _ _ s
  refine wpAny_bind (tupleItemsOf_ ht ?_)
  refine wpAny_bind (wpAny_typeOf hTs ?_)
  rw [if_pos (by decide)]
  refine wpAny_bind (sliceApplied_gen hs pl pu ?_)
  have hyes:(((sIx items.size 0 lo:Nat):Int) == 0&&(1:Int) == 1&&(sIx items.size items.size hi - sIx items.size 0 lo) == items.size)=true:=by
    rw [w1,w2]
    simp
  show wpAny _ _ (if (((sIx items.size 0 lo:Nat):Int) == 0&&(1:Int) == 1&&(sIx items.size items.size hi - sIx items.size 0 lo) == items.size)=true then _ else _) _ _ s
  rw [if_pos hyes]
  unfold Builtin.Tuple.tupleIsExact
  refine wpAny_bind (wpAny_bind (wpAny_typeOf ht.typeIs (wpAny_pure ?_)))
  rw [if_pos (by decide)]
  exact wpAny_bind (wpAny_rule (wpAny_pure ⟨_,rfl,wpAny_pure h⟩))
end HT
namespace L2
open PySem PySem.Spec PyProof.Rows
noncomputable def rSlN (K:PySem.W.Frag):V→Option Int→Option Int→Hp→VK→Prop:=fun x lo hi H Q=>∃ a xs,x= .ref a∧SqT K H a xs∧∀ H' p,Same H H'→SqT K H' p (cutV xs lo hi)→Q (.ref p) H'
theorem k_slt {X:Cx} {K:PySem.W.Frag} (hK:X.K=K:=by rfl):SlR X (rSlN K):=by
  subst hK
  intro pins s σ H x v vl vu lo hi sl Q I rx hs pl pu h
  obtain ⟨a,xs,rfl,hx,q⟩:=h
  by_cases hw:HT.sIx xs.length 0 lo=0∧HT.sIx xs.length xs.length hi=xs.length
  · cases rx
    obtain ⟨its,r,ht,hz⟩:=I.tuple hx
    have hlen:its.toArray.size=xs.length:=by rw [List.size_toArray];exact r.length.symm
    refine ⟨"tuple",_,PyProof.Rows.slot_tuple_getitem.lookup,ht.typeIs,?_⟩
    refine HT.getItem_tuple_whole ht hs pl pu (by rw [hlen];exact hw.1) (by rw [hlen];exact hw.2) ?_
    have e:cutV xs lo hi=xs:=by
      unfold cutV
      rw [hw.1,hw.2,List.drop_zero,Nat.sub_zero,List.take_of_length_le (Nat.le_refl _)]
    exact ⟨.ref a,H,I,rfl,q H a (Same.refl _) (by rw [e];exact hx)⟩
  · exact sl_tup pins s σ H _ v vl vu lo hi sl Q I rx hs pl pu ⟨a,xs,rfl,hx,hw,fun p hp=>q _ p (same_new hp) (SqT.of upd_same)⟩
theorem rd_slN {K:PySem.W.Frag} {H:Hp} {Q:VK} {a:Addr} {xs:List V} {lo hi:Option Int} (c:SqT K H a xs) (h:∀ H' p,Same H H'→SqT K H' p (cutV xs lo hi)→Q (.ref p) H'):rSlN K (.ref a) lo hi H Q:=⟨a,xs,rfl,c,h⟩
theorem eqDs_dN:∀ a b:List Nat,eqDs (a.map dN) (b.map dN)=decide (a=b)
  | [],[]=>by simp [eqDs]
  | [],_::_=>by simp [eqDs]
  | _::_,[]=>by simp [eqDs]
  | x::a,y::b=>by
    rw [List.map_cons,List.map_cons]
    unfold eqDs
    rw [eqDs_dN a b]
    have e:eqD (dN x) (dN y)=decide (x=y):=by
      show eqD (.int (x:Int)) (.int (y:Int))=_
      unfold eqD
      rw [Bool.eq_iff_iff,beq_iff_eq,decide_eq_true_iff]
      omega
    rw [e,Bool.eq_iff_iff]
    simp
theorem eqD_dL (a b:List Nat):eqD (dL a) (dL b)=decide (a=b):=by
  show eqD (.lst _) (.lst _)=_
  unfold eqD
  exact eqDs_dN a b
theorem eqD_dT (a b:List Nat):eqD (dT a) (dT b)=decide (a=b):=by
  show eqD (.tup _) (.tup _)=_
  unfold eqD
  exact eqDs_dN a b
end L2
namespace L2
open PySem PySem.Spec PyProof.Rows
end L2
namespace HT
open PySem PySem.Spec PyProof.Rows PySem.SeqAt
open PySem.AutoSeq1 (wpAny_loadPart')
open PySem.MeetsSeq PySem.MeetsSeq2 PySem.MeetsSeq3
theorem str_eq_declines_dict (b:Str) (u:Tok) (l:Addr) (c:Value) (es:Array DictEntry) (n:Nat) (dd:Option Addr) (sl:Array (Option Value)):
    Meets (Builtin.«str.__eq__» ⟨[.str b u, .ref l],[]⟩) (fun _ R s=>s.heap.get? l=some { cls:=c,dict:=dd,data:= .dict es n,slots:=sl }∧R (.ok (.ret .notImplemented)) s):=
  .of_wp fun prog w A R s h=>by obtain ⟨hp,g,d,tk,os⟩:=s;obtain ⟨hl,h⟩:=h;wp_walk using wpAny_loadPart' hl,wpAny_load hl;exact ⟨_,rfl,h⟩
theorem dict_eq_declines_str (l:Addr) (es:Array DictEntry) (n:Nat) (dd:Option Addr) (sl:Array (Option Value)) (b:Str) (u:Tok):
    Meets (Builtin.«dict.__eq__» ⟨[.ref l, .str b u],[]⟩) (fun _ R s=>s.heap.get? l=some { cls:= .type "dict",dict:=dd,data:= .dict es n,slots:=sl }∧R (.ok (.ret .notImplemented)) s):=
  .of_wp fun prog w A R s h=>by obtain ⟨hp,g,d,tk,os⟩:=s;obtain ⟨hl,h⟩:=h;have f1:=PySem.F.sub_str_dict;wp_walk using wpAny_loadPart' hl;exact ⟨_,rfl,h⟩
section
variable {A:Around} {s:Shared}
theorem rcAt_str_dict {l:Addr} {es:Array DictEntry} {n:Nat} {dd:Option Addr} {sl:Array (Option Value)} (b:Str) (u:Tok) (ho:s.heap.get? l=some { cls:= .type "dict",dict:=dd,data:= .dict es n,slots:=sl }) (hu:A.units<cLine):RcAt A s (.str b u) (.ref l) false:=fun prog w E Q h=>
  rc_eq_decline_or (k:=false) (typeIs_str s b u) ⟨_,ho,rfl⟩ (by decide) PySem.F.sub_dict_str PySem.F.slot_str_eq PySem.F.slot_dict_eq_refl
    (fun _ hq=>call_meets PySem.F.slot_str_eq (typeIs_str s b u) PySem.F.entry_str_eq (PySem.F.args_str_eq_2 _ _) (str_eq_declines_dict b u l (.type "dict") es n dd sl) ⟨ho,hq⟩)
    (fun _ hq=>call_meets PySem.F.slot_dict_eq_refl ⟨_,ho,rfl⟩ PySem.F.entry_dict_eq (PySem.F.args_dict_eq_2 _ _) (dict_eq_declines_str l es n dd sl b u) ⟨ho,hq⟩)
    (fun _ hq=>wpAny_of_eq (rfl:isSame (.str b u) (.ref l)=pure false) hq) (.inr hu) h
theorem eqAt_str_dict {l:Addr} {es:Array DictEntry} {n:Nat} {dd:Option Addr} {sl:Array (Option Value)} (b:Str) (u:Tok) (ho:s.heap.get? l=some { cls:= .type "dict",dict:=dd,data:= .dict es n,slots:=sl }) (hu:A.units<cLine):EqAt A s (.str b u) (.ref l) false:=fun prog w E Q h=>by
  unfold eqBool
  refine wpAny_holding ?_
  refine wpAny_ite_split (fun hab=>absurd (eq_of_beq hab) nofun) (fun _=> ?_)
  exact wpAny_bind (rcAt_str_dict b u ho hu prog w E _ (wpAny_truthy_bool h))
end
end HT
namespace L2
open PySem PySem.Spec PyProof.Rows
inductive DX where
  | d (d:Dt) | dic | tdic (rest:List Dt)
inductive Rx (H:Hp) (n:Nat):V→DX→Prop
  | d {v:V} {d:Dt} (r:Rp H FT n v d):Rx H n v (.d d)
  | dic {a:Addr} (h:H a=some (.dK [])):Rx H n (.ref a) .dic
  | tdic {t a:Addr} {ws:List V} {ds:List Dt} (ht:H t=some (.tup (.ref a::ws))) (h:H a=some (.dK [])) (l:ws.length=ds.length) (e:∀ (i:Nat) (v:V) (d:Dt),ws[i]?=some v→ds[i]?=some d→Rp H FT n v d):Rx H n (.ref t) (.tdic ds)
noncomputable def okX:DX→List Dt→Prop
  | .d _,_=>True
  | .dic,ds=>∀ e∈ds,∃ z,e= .str z
  | .tdic _,ds=>∀ e∈ds,∃ z r,e= .tup (.str z::r)
noncomputable def inX:DX→List Dt→Bool
  | .d d,ds=>ds.any fun e=>eqD e d
  | _,_=>false
theorem dict_at {P:Program} {w:World} {H:Hp} {h:Heap} {a:Addr} (x:ObjOk P w H h a (.dK [])):∃ es n dd sl,h.get? a=some { cls:= .type "dict",dict:=dd,data:= .dict es n,slots:=sl }:=by
  obtain ⟨_,_,vs,_,o,es,ep,e,hx,hd,_⟩:=x
  obtain ⟨c,dd,da,sl⟩:=o
  obtain ⟨hc,_⟩:=hx
  simp only at hc hd
  subst hc hd
  exact ⟨es,ep,dd,sl,e⟩
section
variable {X:Cx} {pins:List (Addr × Obj)} {σ:St} {H:Hp} {s:Shared}
theorem eqAt_X (I:Inv X pins σ H s) {n:Nat} {A:Around} {v u:V} {e:Dt} {Y:DX} {rv ru:Value} (r:Rp H FT n v e) (rx:Rx H n u Y) (ok:okX Y [e]) (rr:RelV v rv) (rr2:RelV u ru) (hu:A.units+n+1<cLine):SeqAt.EqAt A s rv ru (inX Y [e]):=by
  cases rx with
  | d r2=>
    show SeqAt.EqAt A s rv ru (eqD e _||false)
    rw [Bool.or_false]
    exact eqAt_D I r r2 rr rr2 (by omega)
  | @dic a h=>
    obtain ⟨z,rfl⟩:=ok e (List.mem_singleton.mpr rfl)
    cases r
    obtain ⟨t,rfl⟩:=rr
    obtain rfl:ru=Value.ref a:=rr2
    obtain ⟨es,m,dd,sl,ho⟩:=dict_at (I.hok a _ h)
    exact HT.eqAt_str_dict z t ho (by omega)
  | @tdic t a ws ds ht h l el=>
    obtain ⟨z,rr0,rfl⟩:=ok e (List.mem_singleton.mpr rfl)
    obtain rfl:ru=Value.ref t:=rr2
    cases r with
    | @tup m b xs _ q1 b1 l1 el1=>
      obtain rfl:rv=Value.ref b:=rr
      obtain ⟨its,rv1,pl,_⟩:=I.tuple (SqT.of q1)
      have pl:s.heap.IsTuple b its.toArray:=pl
      obtain ⟨its2,rv2,pl2,_⟩:=I.tuple (SqT.of ht)
      have pl2:s.heap.IsTuple t its2.toArray:=pl2
      have x0:∃ y,xs[0]?=some y:=by
        cases xs with
        | nil=>cases l1
        | cons y _=>exact ⟨y,rfl⟩
      obtain ⟨y,hy⟩:=x0
      have ry:=el1 0 y _ hy rfl
      have hab:b≠t:=fun q=>by
        subst q
        rw [q1] at ht
        cases ht
        cases hy
        cases ry
      refine SeqAt.EqAt.of_refs hab ?_
      have at':∀ j (h1:j<its.toArray.size) (h2:j<its2.toArray.size),SeqAt.EqAt A.in1 s its.toArray[j] its2.toArray[j] (if j=0 then false else eqD ((Dt.str z::rr0).getD j .non) ((Dt.non::ds).getD j .non)):=fun j h1 h2=>by
        have k1:=rv1.length
        have k2:=rv2.length
        have h1':j<its.length:=by simpa using h1
        have h2':j<its2.length:=by simpa using h2
        have g1:xs[j]?=some (xs.getD j .non):=by rw [List.getD_eq_getElem?_getD,List.getElem?_eq_getElem (by omega)];rfl
        have g2:(V.ref a::ws)[j]?=some ((V.ref a::ws).getD j .non):=by rw [List.getD_eq_getElem?_getD,List.getElem?_eq_getElem (by omega)];rfl
        obtain ⟨u1,e1,ru1⟩:=rv1.get g1
        obtain ⟨u2,e2,ru2⟩:=rv2.get g2
        have p1:its.toArray[j]=u1:=by rw [List.getElem?_eq_getElem h1'] at e1;simpa using Option.some.inj e1
        have p2:its2.toArray[j]=u2:=by rw [List.getElem?_eq_getElem h2'] at e2;simpa using Option.some.inj e2
        rw [p1,p2]
        cases j with
        | zero=>
          rw [if_pos rfl]
          have r0:=el1 0 _ _ g1 rfl
          obtain ⟨es,m',dd,sl,ho⟩:=dict_at (I.hok a _ h)
          generalize xs.getD 0 .non=y0 at r0 ru1
          cases r0
          obtain ⟨t0,rfl⟩:=ru1
          obtain rfl:u2=Value.ref a:=ru2
          exact HT.eqAt_str_dict z t0 ho (by rw [in1_units];omega)
        | succ j=>
          rw [if_neg (by omega)]
          have d1:(Dt.str z::rr0)[j+1]?=some ((Dt.str z::rr0).getD (j+1) .non):=by rw [List.getD_eq_getElem?_getD,List.getElem?_eq_getElem (by simp at l1;simp;omega)];rfl
          have hlw:j<ds.length:=by simp at k2;omega
          have d2:ds[j]?=some (ds.getD j .non):=by rw [List.getD_eq_getElem?_getD,List.getElem?_eq_getElem hlw];rfl
          have gw:ws[j]?=some ((V.ref a::ws).getD (j+1) .non):=by simpa using g2
          have r1:=(el1 (j+1) _ _ g1 d1).up (Nat.le_succ m)
          have r2:=el j _ _ gw d2
          show SeqAt.EqAt _ s u1 u2 (eqD _ (ds.getD j .non))
          exact eqAt_D I r1 r2 ru1 ru2 (by rw [in1_units];omega)
      have q:=SeqAt.RcAt.tuples (A:=A) (e:=fun j=>if j=0 then false else eqD ((Dt.str z::rr0).getD j .non) ((Dt.non::ds).getD j .non)) pl pl2 (by omega) at'
      have z1:0<its.toArray.size:=by
        have:=rv1.length
        rw [l1] at this
        simp at this ⊢
        omega
      have z2:0<its2.toArray.size:=by
        have:=rv2.length
        simp at this ⊢
        omega
      have ef:((List.range (min its.toArray.size its2.toArray.size)).all fun j=>if j=0 then false else eqD ((Dt.str z::rr0).getD j .non) ((Dt.non::ds).getD j .non))=false:=by
        rw [List.all_eq_false]
        exact ⟨0,List.mem_range.mpr (by omega),by simp⟩
      rw [ef,Bool.false_and] at q
      exact q
end
noncomputable def rInX (neg:Bool):R2:=fun x y H Q=>∃ (p:Addr) (vs:List V) (ds:List Dt) (n:Nat) (Y:DX),y= .ref p∧(H p=some (.lst vs)∨H p=some (.tup vs))∧n≤30∧vs.length=ds.length∧(∀ (i:Nat) (v:V) (d:Dt),vs[i]?=some v→ds[i]?=some d→Rp H FT n v d)∧Rx H n x Y∧okX Y ds∧
  Q (.bl (if neg then !inX Y ds else inX Y ds)) H
theorem okX_one {Y:DX} {ds:List Dt} (h:okX Y ds) {e:Dt} (he:e∈ds):okX Y [e]:=by
  cases Y with
  | d _=>trivial
  | dic=>intro e' h';rw [List.mem_singleton.mp h'];exact h e he
  | tdic _=>intro e' h';rw [List.mem_singleton.mp h'];exact h e he
theorem inX_any (Y:DX) (ds:List Dt):inX Y ds=ds.any fun e=>inX Y [e]:=by
  cases Y with
  | d d=>show (ds.any fun e=>eqD e d)=ds.any fun e=>(eqD e d||false);simp
  | dic=>show false=_;symm;rw [List.any_eq_false];intro e _;show ¬ (false=true);decide
  | tdic _=>show false=_;symm;rw [List.any_eq_false];intro e _;show ¬ (false=true);decide
open Classical in
theorem in_core {X:Cx} {pins:List (Addr × Obj)} {σ:St} {H:Hp} {s:Shared} (I:Inv X pins σ H s) (hu:X.A.units+64<cLine) {vs:List V} {ds:List Dt} {n:Nat} {Y:DX} {x:V} {v:Value} {its:List Value} (hn:n≤30) (l:vs.length=ds.length)
    (el:∀ (i:Nat) (v:V) (d:Dt),vs[i]?=some v→ds[i]?=some d→Rp H FT n v d) (rx:Rx H n x Y) (ok:okX Y ds) (rr:RelV x v) (rv:Vals vs its):
    ∃ e:Value→Bool,(∀ y,y∈its→SeqAt.EqAt X.A.in1 s y v (e y))∧its.any e=inX Y ds:=by
  have k:=rv.length
  have eq1:∀ (i:Nat) (u:Value) (d:Dt),its[i]?=some u→ds[i]?=some d→SeqAt.EqAt X.A.in1 s u v (inX Y [d]):=fun i u d hu1 hd=>by
    have hi:i<its.length:=(List.getElem?_eq_some_iff.mp hu1).1
    have g1:vs[i]?=some (vs.getD i .non):=by rw [List.getD_eq_getElem?_getD,List.getElem?_eq_getElem (by omega)];rfl
    obtain ⟨u1,e1,ru1⟩:=rv.get g1
    rw [e1] at hu1
    cases hu1
    exact eqAt_X I (el i _ _ g1 hd) rx (okX_one ok (List.mem_of_getElem? hd)) ru1 rr (by rw [in1_units];omega)
  refine ⟨fun u=>decide (∃ (i:Nat) (d:Dt),its[i]?=some u∧ds[i]?=some d∧inX Y [d]=true),fun u hu1=> ?_,?_⟩
  · by_cases h:∃ (i:Nat) (d:Dt),its[i]?=some u∧ds[i]?=some d∧inX Y [d]=true
    · show SeqAt.EqAt X.A.in1 s u v (decide _)
      rw [decide_eq_true h]
      obtain ⟨i,d,h1,h2,h3⟩:=h
      have:=eq1 i u d h1 h2
      rwa [h3] at this
    · show SeqAt.EqAt X.A.in1 s u v (decide _)
      rw [decide_eq_false h]
      obtain ⟨i,hi,rfl⟩:=List.getElem_of_mem hu1
      have hd:ds[i]?=some (ds.getD i .non):=by rw [List.getD_eq_getElem?_getD,List.getElem?_eq_getElem (by omega)];rfl
      have h1:its[i]?=some its[i]:=List.getElem?_eq_getElem hi
      have:=eq1 i _ _ h1 hd
      have hf:inX Y [ds.getD i .non]=false:=by
        cases hq:inX Y [ds.getD i .non] with
        | false=>rfl
        | true=>exact absurd ⟨i,_,h1,hd,hq⟩ h
      rwa [hf] at this
  · rw [inX_any,Bool.eq_iff_iff,List.any_eq_true,List.any_eq_true]
    constructor
    · rintro ⟨u,hu1,h⟩
      obtain ⟨i,d,h1,h2,h3⟩:=of_decide_eq_true h
      exact ⟨d,List.mem_of_getElem? h2,h3⟩
    · rintro ⟨d,hd,h⟩
      obtain ⟨i,hi,rfl⟩:=List.getElem_of_mem hd
      have hi':i<its.length:=by omega
      exact ⟨its[i],List.getElem_mem hi',decide_eq_true ⟨i,_,List.getElem?_eq_getElem hi',List.getElem?_eq_getElem hi,h⟩⟩
theorem k_catU {X:Cx} {K:PySem.W.Frag} (hK:X.K=K:=by rfl):OpR X (binaryOp .Add) (rCatT K):=by subst hK;exact op_catT
theorem rd_catU {K:PySem.W.Frag} {H:Hp} {Q:VK} {a b:Addr} {xs ys:List V} (c:SqT K H a xs) (d:SqT K H b ys) (n:xs≠[]) (n2:ys≠[]) (l:xs.length+ys.length≤100000) (h:∀ p,H p=none→Q (.ref p) (upd H p (.tup (xs++ys)))):rCatT K (.ref a) (.ref b) H Q:=
  ⟨a,b,xs,ys,rfl,rfl,c,d,n,Nat.le_trans l (by decide),fun e=>absurd e n2,fun _=>h⟩
end L2
namespace L2
open PySem PySem.Spec PyProof.Rows
section
variable {X:Cx} {K:PySem.W.Frag}
theorem get_list:PGet X (rIxL X.K):=by
  intro pins s σ H o i ov iv Q I ro ri h
  obtain ⟨p,xs,k,z,rfl,rfl,hq,he,q⟩:=h
  cases ro
  obtain ⟨t,rfl⟩:=ri
  obtain ⟨its,r,pl,hz⟩:=I.list hq
  obtain ⟨j,h1,h2,h3,h4,h5⟩:=atI_get he
  obtain ⟨w,ew,rw'⟩:=r.get h2
  have hl:=r.length
  have hn:=line63
  have fin:EP X pins σ Q w s:=⟨z,H,I,rw',q⟩
  by_cases h0:0≤k
  · have hj:k.toNat=j:=by
      rw [seqIndex_of h0 h5] at h1
      exact Option.some.inj h1
    exact PySem.wpAny_getItem_list pl.isList h0 (by omega) (by rw [hj];simpa using ew) fin
  · have hj:(k+(its.toArray.size:Int)).toNat=j:=by
      rw [seqIndex_neg (by omega) h4] at h1
      rw [List.size_toArray, ← hl]
      exact Option.some.inj h1
    exact wpAny_getItem_list_neg pl.isList (by omega) (by rw [List.size_toArray] <;> omega) (by omega) (by rw [hj];simpa using ew) fin
theorem k_getl (hK:X.K=K:=by rfl):PGet X (rIxL K):=hK▸get_list
end
theorem rd_augS {to ti te:TE} {tget:V→V→Hp→VK→Prop} {tip:TIp} {tset:TSet} {D:Ends} {σ:St} {H:Hp} (h:to σ H fun o H1=>ti σ H1 fun i H2=>tget o i H2 fun x H3=>te σ H3 fun y H4=>tip x y H4 fun z H5=>tset o i z H5 fun H6=>D.nx σ H6):tAugS to ti te tget tip tset D σ H:=h
theorem rd_gsub {to ti:TE} {t:TSet} {v:V} {σ:St} {H:Hp} {Q:St→Hp→Prop} (h:to σ H fun o H1=>ti σ H1 fun i H2=>t o i v H2 fun H3=>Q σ H3):gSub to ti t v σ H Q:=h
theorem ix_nat {n i:Nat} (h:i<n):ixN n ((i:Nat):Int)=some i:=by
  unfold ixN
  rw [if_pos (by omega),if_pos (by omega)]
  simp
theorem and_not (n m:Nat):Builtin.bitAnd ((n:Nat):Int) (Builtin.bitNot ((m:Nat):Int))=((n ^^^ (n &&& m):Nat):Int):=by
  have e1:decide ((0:Int)≤((n:Nat):Int))=true:=decide_eq_true (by omega)
  have e2:decide ((0:Int)≤Builtin.bitNot ((m:Nat):Int))=false:=decide_eq_false (by unfold Builtin.bitNot;omega)
  have e3:(Builtin.bitNot (Builtin.bitNot ((m:Nat):Int))).toNat=m:=by unfold Builtin.bitNot;omega
  have e4:((n:Nat):Int).toNat=n:=Int.toNat_natCast n
  show (match decide ((0:Int)≤((n:Nat):Int)),decide ((0:Int)≤Builtin.bitNot ((m:Nat):Int)) with
    | true,true=>(((((n:Nat):Int).toNat &&& (Builtin.bitNot ((m:Nat):Int)).toNat:Nat):Int))
    | true,false=>((n:Nat):Int) - ((((n:Nat):Int).toNat &&& (Builtin.bitNot (Builtin.bitNot ((m:Nat):Int))).toNat:Nat):Int)
    | false,true=>Builtin.bitNot ((m:Nat):Int) - (((Builtin.bitNot ((m:Nat):Int)).toNat &&& (Builtin.bitNot ((n:Nat):Int)).toNat:Nat):Int)
    | false,false=>Builtin.bitNot (((Builtin.bitNot ((n:Nat):Int)).toNat ||| (Builtin.bitNot (Builtin.bitNot ((m:Nat):Int))).toNat:Nat):Int))=_
  rw [e1,e2]
  show ((n:Nat):Int) - ((((n:Nat):Int).toNat &&& (Builtin.bitNot (Builtin.bitNot ((m:Nat):Int))).toNat:Nat):Int)=_
  rw [e3,e4]
  have h:=MM.xor_eq n (n &&& m)
  have h2:n &&& (n &&& m)=n &&& m:=by rw [← Nat.and_assoc,Nat.and_self]
  have h3:n ||| (n &&& m)=n:=Nat.eq_of_testBit_eq fun i=>by
    rw [Nat.testBit_or,Nat.testBit_and]
    cases n.testBit i <;> rfl
  rw [h2,h3] at h
  omega
theorem and_not_bit (n m i:Nat):(n ^^^ (n &&& m)).testBit i=(n.testBit i&& !m.testBit i):=by
  rw [Nat.testBit_xor,Nat.testBit_and]
  cases n.testBit i <;> cases m.testBit i <;> rfl
end L2
open L2
local macro_rules | `(tactic| walk_at "t") => `(tactic| first | (with_reducible first | refine rd_seq ?_ | refine rd_asg ?_ | refine rd_name ?_ | refine rd_c ?_ | refine rd_op ?_ | refine rd_un ?_ | refine rd_rI0 ?_ | refine rd_rU ?_ | refine rd_eqI ?_ | refine rd_neI ?_ | refine rd_eqS ?_ | refine rd_not ?_ | refine rd_test ?_ | refine rd_tB ?_ | refine rd_bl ?_ | refine rd_or ?_ | refine rd_and ?_ | refine rd_andV ?_ | refine rd_notV ?_ | refine rd_if ?_ | refine rd_ret ?_ | refine rd_drop ?_ | refine rd_nil ?_ | refine rd_cons ?_ | refine rd_lst ?_ | refine rd_tup ?_ | refine rd_cb ?_ | refine rd_call ?_ | refine rd_sl ?_ | refine rd_part ?_ | refine rd_noPart ?_ | refine rd_int ?_ | refine iteT ?_ | refine iteF ?_ | refine rd_next ?_ | refine rd_bm0 ?_ | refine rd_bm ?_ | refine iteNF ?_ | refine rd_comp ?_ | refine rd_for ?_ | refine rd_iL ?_ | refine rd_iT ?_ | refine rd_iQ ?_ | refine rd_iE ?_ | refine rd_iF ?_ | refine rd_iZ ?_ | refine rd_i1 ?_ | refine rd_i2 ?_ | refine rd_i3 ?_ | refine rd_gcons ?_ | refine rd_gnil ?_ | refine rd_chain ?_ | refine rd_fld ?_ | refine rd_put ?_ | refine rd_make ?_ | refine rd_meth ?_) | ((with_reducible apply rd_var); exact rfl) | (with_reducible refine rd_len (by simp only [List.length_cons, List.length_nil]; decide) ?_))
local macro_rules | `(tactic| walk_at "s") => `(tactic| first | walk_at "t" | (with_reducible refine rd_ifS ?_))
local macro_rules | `(tactic| walk_at "v") => `(tactic| repeat walk_at "t")
local macro_rules | `(tactic| walk_at "w") => `(tactic| repeat walk_at "s")
namespace K31
open PySem L2 PySem.Spec PyProof.Rows
seal L2.PE L2.PT L2.PW L2.PA L2.PS L2.PSs L2.PI L2.PG L2.PTs L2.PGs
section
variable {P:Program} {w:World} {K:PySem.W.Frag} {mg:Str→Option Value} {base:Heap}
structure Cs where
  Draft:Addr
  Cloth:Addr
  Gear:Addr
structure Txt (K:PySem.W.Frag) (mg:Str→Option Value) (c:Cs):Prop where
  own:Own mg ["isinstance","int","bool","str","list","tuple","len","all","range","sum","zip","enumerate"]
  g_Draft:mg "Draft"=some (.ref c.Draft)
  kd_Draft:Kind K c.Draft
  is_Draft:PySem.W.kitOne K (.ref c.Draft) (.ref c.Draft)=some true
  na_Draft_shafts:NoAttr K c.Draft "shafts"
  na_Draft_treadles:NoAttr K c.Draft "treadles"
  na_Draft_threading:NoAttr K c.Draft "threading"
  na_Draft_ties:NoAttr K c.Draft "ties"
  na_Draft_treading:NoAttr K c.Draft "treading"
  na_Draft_warp:NoAttr K c.Draft "warp"
  na_Draft_weft:NoAttr K c.Draft "weft"
  g_Cloth:mg "Cloth"=some (.ref c.Cloth)
  kd_Cloth:Kind K c.Cloth
  is_Cloth:PySem.W.kitOne K (.ref c.Cloth) (.ref c.Cloth)=some true
  na_Cloth_width:NoAttr K c.Cloth "width"
  na_Cloth_rows:NoAttr K c.Cloth "rows"
  g_Gear:mg "Gear"=some (.ref c.Gear)
  kd_Gear:Kind K c.Gear
  is_Gear:PySem.W.kitOne K (.ref c.Gear) (.ref c.Gear)=some true
  na_Gear_tied:NoAttr K c.Gear "tied"
  na_Gear_carried:NoAttr K c.Gear "carried"
  na_Gear_always_up:NoAttr K c.Gear "always_up"
  k_MOST_SHAFTS:∃ t,mg "MOST_SHAFTS"=some (.int 16 t)
  k_MOST_TREADLES:∃ t,mg "MOST_TREADLES"=some (.int 16 t)
  k_MOST_ENDS:∃ t,mg "MOST_ENDS"=some (.int 60 t)
  k_MOST_PICKS:∃ t,mg "MOST_PICKS"=some (.int 60 t)
  k_COLOURS:∃ t,mg "COLOURS"=some (.str "abcdefghijklmnopqrstuvwxyz" t)
  k_UP:∃ t,mg "UP"=some (.str "up" t)
  k_DOWN:∃ t,mg "DOWN"=some (.str "down" t)
  k_BROKEN:∃ t,mg "BROKEN"=some (.str "broken" t)
  k_LOOSE:∃ t,mg "LOOSE"=some (.str "loose" t)
  k_TIED:∃ t,mg "TIED"=some (.str "tied" t)
  k_DRAWN:∃ t,mg "DRAWN"=some (.str "drawn" t)
noncomputable def spLaw (K:PySem.W.Frag):Sp:=fun vs H Q _=>∃ (a:Addr) (ns:List Int),vs=[.ref a]∧SqL K H a (ns.map V.int)∧ns.length≤63∧∀ H',Q (.bl true) H'
end
end K31
open L2
namespace K31
open PySem L2 PySem.Spec PyProof.Rows
seal L2.PE L2.PT L2.PW L2.PA L2.PS L2.PSs L2.PI L2.PG L2.PTs L2.PGs
section
variable {P:Program} {w:World} {K:PySem.W.Frag} {mg:Str→Option Value} {base:Heap} {c:Cs}
end
end K31
open L2
namespace K31
open PySem L2 PySem.Spec PyProof.Rows
seal L2.PE L2.PT L2.PW L2.PA L2.PS L2.PSs L2.PI L2.PG L2.PTs L2.PGs
section
variable {P:Program} {w:World} {K:PySem.W.Frag} {mg:Str→Option Value} {base:Heap} {c:Cs}
noncomputable def sp_is_whole (K:PySem.W.Frag):Sp:=fun vs H Q _=>∃ x,vs=[x]∧Ty K H x∧Q (.bl (isIntV x)) H
noncomputable abbrev s_is_whole:Stmt:=top 11
theorem sc_is_whole:FnScope ["thing"] ["thing"] (defScope s_is_whole):=⟨rfl,rfl,rfl,by decide +kernel,rfl,by decide +kernel,by decide +kernel⟩
theorem ok_is_whole {f:Addr} {fd:FuncData} (F:Fun K "is_whole" "is_whole" s_is_whole f fd) (T:Txt K mg c):FnOk P w K mg base CX0 1 f fd ["thing"] (sp_is_whole K):=by
  refine F.ok sc_is_whole (fun vs H Q E h=> ?_) (fun cdv A outer s H vs Q E hr h=> ?_)
  · obtain ⟨x,rfl,_⟩:=h
    rfl
  · obtain ⟨x,rfl,⟨n,ty⟩,k⟩:=h
    refine ⟨_,(pss_one (ps_ret (pe_and (pe_callB (k_isin (K:=K)) rfl (T.own _ (by decide)) boot_isinstance (pa_cons (pv 0) (pa_cons (pe_ty rfl (T.own _ (by decide)) boot_int) pa_nil))) (pe_one (pe_not (pe_callB (k_isin (K:=K)) rfl (T.own _ (by decide)) boot_isinstance (pa_cons (pv 0) (pa_cons (pe_ty rfl (T.own _ (by decide)) boot_bool) pa_nil)))))))),?_⟩
    walk_at "w"
    refine rd_isin ty (kit_int ty) ?_
    walk_at "w"
    refine iteC (fun hc=> ?_) (fun hc=> ?_)
    · walk_at "w"
      refine rd_isin ty (kit_bool ty) ?_
      walk_at "w"
      exact fin_b (by cases x <;> first | rfl | exact absurd hc Bool.false_ne_true) k
    · exact fin_b (by cases x <;> first | rfl | exact absurd hc.symm Bool.false_ne_true) k
noncomputable def sp_is_among (K:PySem.W.Frag):Sp:=fun vs H Q _=>∃ x a b,vs=[x, .int a, .int b]∧Ty K H x∧Q (.bl (amongV x a b)) H
noncomputable abbrev s_is_among:Stmt:=top 12
theorem sc_is_among:FnScope ["thing","least","most"] ["thing","least","most"] (defScope s_is_among):=⟨rfl,rfl,rfl,by decide +kernel,rfl,by decide +kernel,by decide +kernel⟩
theorem ok_is_among {f:Addr} {fd:FuncData} (F:Fun K "is_among" "is_among" s_is_among f fd) (T:Txt K mg c) (c_is_whole:CallF P w K mg base "is_whole" 1 ["thing"] (sp_is_whole K)):FnOk P w K mg base CX0 2 f fd ["thing","least","most"] (sp_is_among K):=by
  refine F.ok sc_is_among (fun vs H Q E h=> ?_) (fun cdv A outer s H vs Q E hr h=> ?_)
  · obtain ⟨x,a,b,rfl,_⟩:=h
    rfl
  · obtain ⟨x,a,b,rfl,ty,k⟩:=h
    refine ⟨_,(pss_one (ps_ret (pe_and (pe_callF c_is_whole hr (pa_cons (pv 0) pa_nil)) (pe_one (pe_chain op_le op_le (pv 1) (pv 0) (pv 2)))))),?_⟩
    walk_at "w"
    refine ⟨x,rfl,ty,?_⟩
    walk_at "w"
    refine iteC (fun hc=> ?_) (fun hc=> ?_)
    · cases x with
      | int i=>
        walk_at "w"
        refine iteC (fun h1=> ?_) (fun h1=> ?_)
        · walk_at "w"
          exact fin_b (by show _=(decide (a≤i)&&decide (i≤b));rw [h1,Bool.true_and]) k
        · walk_at "w"
          exact fin_b (by show _=(decide (a≤i)&&decide (i≤b));rw [h1,Bool.false_and]) k
      | _=>exact absurd hc Bool.false_ne_true
    · exact fin_b (by cases x <;> first | rfl | exact absurd hc.symm Bool.false_ne_true) k
end
end K31
open L2
namespace K31
open PySem L2 PySem.Spec PyProof.Rows
seal L2.PE L2.PT L2.PW L2.PA L2.PS L2.PSs L2.PI L2.PG L2.PTs L2.PGs
section
variable {P:Program} {w:World} {K:PySem.W.Frag} {mg:Str→Option Value} {base:Heap} {c:Cs}
noncomputable def sp_bit_of:Sp:=fun vs H Q _=>∃ n:Nat,vs=[.int n]∧1≤n∧n≤1000∧Q (.int ((2 ^ (n - 1):Nat):Int)) H
noncomputable abbrev s_bit_of:Stmt:=top 24
theorem sc_bit_of:FnScope ["number"] ["number"] (defScope s_bit_of):=⟨rfl,rfl,rfl,by decide +kernel,rfl,by decide +kernel,by decide +kernel⟩
theorem ok_bit_of {f:Addr} {fd:FuncData} (F:Fun K "bit_of" "bit_of" s_bit_of f fd) (T:Txt K mg c):FnOk P w K mg base CX0 1 f fd ["number"] sp_bit_of:=by
  refine F.ok sc_bit_of (fun vs H Q E h=> ?_) (fun cdv A outer s H vs Q E hr h=> ?_)
  · obtain ⟨n,rfl,_⟩:=h
    rfl
  · obtain ⟨n,rfl,h1,h2,q⟩:=h
    refine ⟨_,(pss_one (ps_ret (pe_op op_shl pe_int (pe_op op_sub (pv 0) pe_int)))),?_⟩
    walk_at "w"
    refine rd_rI ⟨by omega,by omega,by decide⟩ ?_
    rw [show ((n:Int) - 1).toNat=n - 1 by omega,pow_cast]
    exact q
noncomputable def sp_mask_of (K:PySem.W.Frag):Sp:=fun vs H Q _=>∃ tp a,∃ ns:List Nat,vs=[.ref a]∧SqS tp K H a (ns.map nV)∧(∀ n∈ns,1≤n∧n≤1000)∧∀ H',Same H H'→Q (.int ((MM.mOf ns:Nat):Int)) H'
noncomputable abbrev s_mask_of:Stmt:=top 25
theorem sc_mask_of:FnScope ["numbers","mask","number"] ["numbers"] (defScope s_mask_of):=⟨rfl,rfl,rfl,by decide +kernel,rfl,by decide +kernel,by decide +kernel⟩
theorem ok_mask_of {f:Addr} {fd:FuncData} (F:Fun K "mask_of" "mask_of" s_mask_of f fd) (T:Txt K mg c) (c_bit_of:CallF P w K mg base "bit_of" 1 ["number"] sp_bit_of):FnOk P w K mg base CX0 2 f fd ["numbers"] (sp_mask_of K):=by
  refine F.ok sc_mask_of (fun vs H Q E h=> ?_) (fun cdv A outer s H vs Q E hr h=> ?_)
  · obtain ⟨tp,a,ns,rfl,_⟩:=h
    rfl
  · obtain ⟨tp,a,ns,rfl,sa,hn,q⟩:=h
    refine ⟨_,(pss_cons (ps_set (i:=1) sc_mask_of.nd rfl (Or.inl rfl) pe_int)
      (pss_cons (ps_for PassesOwn.never rfl (pi_sq (K:=K) (pv 0)) (pg_name (i:=2) sc_mask_of.nd rfl (Or.inl rfl)) (pss_one (ps_aug (i:=1) sc_mask_of.nd rfl (Or.inl rfl) (pe_callF c_bit_of hr (pa_cons (pv 2) pa_nil)) iop_or)))
      (pss_one (ps_ret (pv 1))))),?_⟩
    walk_at "w"
    refine ⟨tp,a,rfl,⟨_,sa⟩,for_src (fs_sq sa) (fun i σ H3=>∃ x,σ=[some (.ref a),some (.int ((MM.mOf (ns.take i):Nat):Int)),x]∧Same H H3) ⟨_,rfl,Same.refl _⟩ (fun i σ H3 ⟨_,_,s⟩=>s) ?_ ?_⟩
    · rintro i σ H' H3 hi ⟨x,rfl,s'⟩ s3
      have hi':i<ns.length:=by simpa using hi
      have hm:ns.getD i 0∈ns:=by rw [List.getD_eq_getElem?_getD,List.getElem?_eq_getElem hi'];exact List.getElem_mem hi'
      rw [getD_nat hi]
      walk_at "w"
      refine rd_aug rfl ?_
      walk_at "w"
      refine ⟨_,rfl,(hn _ hm).1,(hn _ hm).2,?_⟩
      walk_at "w"
      rw [bO, ← MM.mOf_snoc, ← take_getD hi']
      exact ⟨_,rfl,s'.trans s3⟩
    · rintro σ H3 ⟨x,rfl,s3⟩
      walk_at "w"
      rw [List.length_map,List.take_length]
      exact q H3 s3
noncomputable def sp_mask_to:Sp:=fun vs H Q _=>∃ n:Nat,vs=[.int n]∧n≤1000∧Q (.int ((2 ^ n - 1:Nat):Int)) H
noncomputable abbrev s_mask_to:Stmt:=top 26
theorem sc_mask_to:FnScope ["most"] ["most"] (defScope s_mask_to):=⟨rfl,rfl,rfl,by decide +kernel,rfl,by decide +kernel,by decide +kernel⟩
theorem ok_mask_to {f:Addr} {fd:FuncData} (F:Fun K "mask_to" "mask_to" s_mask_to f fd) (T:Txt K mg c):FnOk P w K mg base CX0 1 f fd ["most"] sp_mask_to:=by
  refine F.ok sc_mask_to (fun vs H Q E h=> ?_) (fun cdv A outer s H vs Q E hr h=> ?_)
  · obtain ⟨n,rfl,_⟩:=h
    rfl
  · obtain ⟨n,rfl,h1,q⟩:=h
    refine ⟨_,(pss_one (ps_ret (pe_op op_sub (pe_op op_shl pe_int (pv 0)) pe_int))),?_⟩
    walk_at "w"
    refine rd_rI ⟨by omega,by omega,by decide⟩ ?_
    walk_at "w"
    have hp:0<2 ^ n:=Nat.two_pow_pos n
    rw [show ((n:Int)).toNat=n by omega,pow_cast,show ((2 ^ n:Nat):Int) - 1=((2 ^ n - 1:Nat):Int) by omega]
    exact q
noncomputable def sp_has_number:Sp:=fun vs H Q _=>∃ m n:Nat,vs=[.int m, .int n]∧1≤n∧n≤1000∧Q (.bl (m.testBit (n - 1))) H
theorem and_bit (m i:Nat):(!decide (((m &&& 2 ^ i:Nat):Int)=0))=m.testBit i:=by
  have e:(m &&& 2 ^ i)=(m.testBit i).toNat*2 ^ i:=by
    refine Nat.eq_of_testBit_eq fun j=> ?_
    rw [Nat.testBit_and,Nat.testBit_two_pow]
    by_cases h:i=j
    · subst h
      cases hb:m.testBit i <;> simp
    · cases hb:m.testBit i <;> simp [h,Nat.testBit_two_pow]
  rw [e]
  have hp:0<2 ^ i:=Nat.two_pow_pos i
  cases m.testBit i with
  | false=>simp
  | true=>
    rw [decide_eq_false (by rw [Bool.toNat_true];omega)]
    rfl
noncomputable abbrev s_has_number:Stmt:=top 27
theorem sc_has_number:FnScope ["mask","number"] ["mask","number"] (defScope s_has_number):=⟨rfl,rfl,rfl,by decide +kernel,rfl,by decide +kernel,by decide +kernel⟩
theorem ok_has_number {f:Addr} {fd:FuncData} (F:Fun K "has_number" "has_number" s_has_number f fd) (T:Txt K mg c) (c_bit_of:CallF P w K mg base "bit_of" 1 ["number"] sp_bit_of):FnOk P w K mg base CX0 2 f fd ["mask","number"] sp_has_number:=by
  refine F.ok sc_has_number (fun vs H Q E h=> ?_) (fun cdv A outer s H vs Q E hr h=> ?_)
  · obtain ⟨m,n,rfl,_⟩:=h
    rfl
  · obtain ⟨m,n,rfl,h1,h2,q⟩:=h
    refine ⟨_,(pss_one (ps_ret (pe_cmpR op_ne (pe_op op_and (pv 0) (pe_callF c_bit_of hr (pa_cons (pv 1) pa_nil))) pe_int (nomark _)))),?_⟩
    walk_at "w"
    refine ⟨n,rfl,h1,h2,?_⟩
    walk_at "w"
    rw [bA,and_bit]
    exact q
noncomputable def sp_numbers_of:Sp:=fun vs H Q _=>∃ m:Nat,vs=[.int m]∧m<2 ^ 900∧∀ H' p,Same H H'→H p=none→H' p=some (.lst ((MM.nOf m).map nV))→Q (.ref p) H'
noncomputable abbrev s_numbers_of:Stmt:=top 28
theorem sc_numbers_of:FnScope ["mask"] ["mask"] (defScope s_numbers_of):=⟨rfl,rfl,rfl,by decide +kernel,rfl,by decide +kernel,by decide +kernel⟩
theorem ok_numbers_of {f:Addr} {fd:FuncData} (F:Fun K "numbers_of" "numbers_of" s_numbers_of f fd) (T:Txt K mg c) (c_has_number:CallF P w K mg base "has_number" 2 ["mask","number"] sp_has_number):FnOk P w K mg base CX0 3 f fd ["mask"] sp_numbers_of:=by
  refine F.ok sc_numbers_of (fun vs H Q E h=> ?_) (fun cdv A outer s H vs Q E hr h=> ?_)
  · obtain ⟨m,rfl,_⟩:=h
    rfl
  · obtain ⟨m,rfl,h1,q⟩:=h
    have hb:=MM.bits_le h1
    refine ⟨_,(pss_one (ps_ret (pe_comp1 (pi_range2 rfl (T.own _ (by decide)) (pa_cons pe_int (pa_cons (pe_op op_add (kx_bm0 (K:=K) PySem.F.plainAttrs_int PySem.F.slot_int_bit_length PySem.F.type_int_bit_length mt_bit_length (pv 0)) pe_int) pa_nil))) (fun _ _ _ _=>(pts_one (pt_val (pe_callF c_has_number hr (pa_cons (pv 1) (pa_cons (pv 0) pa_nil)))))) (fun _ _ _ _=>(pv 0))))),?_⟩
    walk_at "w"
    refine tyI ?_
    refine rd_bits ?_
    walk_at "w"
    refine ⟨_,_,rfl,⟨by decide,by decide,by omega,by omega⟩,fun D hD=> ?_⟩
    rw [show ((MM.bits m:Nat)+1 - 1:Int).toNat=MM.bits m by omega]
    refine ints_compF (p:=m.testBit) (G:=fun i=>1+(i:Int)) (src_range rfl) hD (by omega) ?_ ?_ ?_
    · intro i H' R hi s k
      walk_at "w"
      refine ⟨m,i+1,by rw [show (1:Int)+(i:Nat)=((i+1:Nat):Int) by omega],by omega,by omega,?_⟩
      rw [show i+1 - 1=i by omega]
      exact ⟨_,rfl,k H' (Same.refl _)⟩
    · intro i H' R hi hp s k
      walk_at "w"
      exact k H' (Same.refl _)
    · intro H' s hl
      refine q H' D s hD ?_
      rw [hl]
      unfold MM.nOf
      rw [List.map_map,List.map_map]
      congr 2
      refine List.map_congr_left fun i _=> ?_
      show V.int (1+(i:Int))=V.int ((i+1:Nat):Int)
      congr 1
      omega
noncomputable def sp_union_of (K:PySem.W.Frag):Sp:=fun vs H Q _=>∃ tp a,∃ ns:List Nat,vs=[.ref a]∧SqS tp K H a (ns.map nV)∧∀ H',Same H H'→Q (.int ((MM.uOf ns:Nat):Int)) H'
noncomputable abbrev s_union_of:Stmt:=top 29
theorem sc_union_of:FnScope ["masks","union","mask"] ["masks"] (defScope s_union_of):=⟨rfl,rfl,rfl,by decide +kernel,rfl,by decide +kernel,by decide +kernel⟩
theorem ok_union_of {f:Addr} {fd:FuncData} (F:Fun K "union_of" "union_of" s_union_of f fd) (T:Txt K mg c):FnOk P w K mg base CX0 1 f fd ["masks"] (sp_union_of K):=by
  refine F.ok sc_union_of (fun vs H Q E h=> ?_) (fun cdv A outer s H vs Q E hr h=> ?_)
  · obtain ⟨tp,a,ns,rfl,_⟩:=h
    rfl
  · obtain ⟨tp,a,ns,rfl,sa,q⟩:=h
    refine ⟨_,(pss_cons (ps_set (i:=1) sc_union_of.nd rfl (Or.inl rfl) pe_int)
      (pss_cons (ps_for PassesOwn.never rfl (pi_sq (K:=K) (pv 0)) (pg_name (i:=2) sc_union_of.nd rfl (Or.inl rfl)) (pss_one (ps_aug (i:=1) sc_union_of.nd rfl (Or.inl rfl) (pv 2) iop_or)))
      (pss_one (ps_ret (pv 1))))),?_⟩
    walk_at "w"
    refine ⟨tp,a,rfl,⟨_,sa⟩,for_src (fs_sq sa) (fun i σ H3=>∃ x,σ=[some (.ref a),some (.int ((MM.uOf (ns.take i):Nat):Int)),x]∧Same H H3) ⟨_,rfl,Same.refl _⟩ (fun i σ H3 ⟨_,_,s⟩=>s) ?_ ?_⟩
    · rintro i σ H' H3 hi ⟨x,rfl,s'⟩ s3
      have hi':i<ns.length:=by simpa using hi
      rw [getD_nat hi]
      walk_at "w"
      refine rd_aug rfl ?_
      walk_at "w"
      rw [bO, ← MM.uOf_snoc, ← take_getD hi']
      exact ⟨_,rfl,s'.trans s3⟩
    · rintro σ H3 ⟨x,rfl,s3⟩
      walk_at "w"
      rw [List.length_map,List.take_length]
      exact q H3 s3
end
end K31
open L2
namespace K31
open PySem L2 PySem.Spec PyProof.Rows
seal L2.PE L2.PT L2.PW L2.PA L2.PS L2.PSs L2.PI L2.PG L2.PTs L2.PGs
section
variable {P:Program} {w:World} {K:PySem.W.Frag} {mg:Str→Option Value} {base:Heap} {c:Cs}
noncomputable def ClAt (C:Addr) (H:Hp) (x:Addr) (n:Nat) (rs:List Nat):Prop:=∃ dx t,H x=some (.ins C dx [("width",nV n),("rows", .ref t)])∧H t=some (.tup (rs.map nV))
theorem ClAt.same {C:Addr} {H H':Hp} {x:Addr} {n:Nat} {rs:List Nat} (h:ClAt C H x n rs) (s:Same H H'):ClAt C H' x n rs:=by
  obtain ⟨dx,t,h1,h2⟩:=h
  exact ⟨dx,t,s _ _ h1,s _ _ h2⟩
structure ClOk (n:Nat) (rs:List Nat):Prop where
  n1:1≤n
  n2:n≤60
  p1:1≤rs.length
  p2:rs.length≤60
  lt:∀ r∈rs,r<2 ^ n
noncomputable def sp_need_cloth:Sp:=fun vs H Q _=>∃ (n:Nat) (a:Addr) (rs:List Nat),vs=[.int n, .ref a]∧H a=some (.lst (rs.map nV))∧ClOk n rs∧∀ H',Same H H'→Q .non H'
noncomputable abbrev s_need_cloth:Stmt:=top 31
theorem sc_need_cloth:FnScope ["ends","rows"] ["ends","rows"] (defScope s_need_cloth):=⟨rfl,rfl,rfl,by decide +kernel,rfl,by decide +kernel,by decide +kernel⟩
theorem ok_need_cloth {f:Addr} {fd:FuncData} (F:Fun K "need_cloth" "need_cloth" s_need_cloth f fd) (T:Txt K mg c) (c_is_among:CallF P w K mg base "is_among" 2 ["thing","least","most"] (sp_is_among K)) (c_mask_to:CallF P w K mg base "mask_to" 1 ["most"] sp_mask_to):FnOk P w K mg base CX0 3 f fd ["ends","rows"] sp_need_cloth:=by
  refine F.ok sc_need_cloth (fun vs H Q E h=> ?_) (fun cdv A outer s H vs Q E hr h=> ?_)
  · obtain ⟨n,a,rs,rfl,_⟩:=h
    rfl
  · obtain ⟨n,a,rs,rfl,ha,ok,k⟩:=h
    refine ⟨_,(pss_cons (ps_if (pt_not (pt_val (pe_callF c_is_among hr (pa_cons (pv 0) (pa_cons pe_int (pa_cons (pe_gI T.k_MOST_ENDS) pa_nil)))))) (pss_one ps_never) pss_nil)
      (pss_cons (ps_if (PW.pt (pw_or (pt_not (pt_val (pe_callB (k_isin (K:=K)) rfl (T.own _ (by decide)) boot_isinstance (pa_cons (pv 1) (pa_cons (pe_ty rfl (T.own _ (by decide)) boot_list') pa_nil))))) (pw_or1 (pt_not (pt_val (pe_callF c_is_among hr (pa_cons (pe_callB (k_len (K:=K)) rfl (T.own _ (by decide)) boot_len (pa_cons (pv 1) pa_nil)) (pa_cons pe_int (pa_cons (pe_gI T.k_MOST_PICKS) pa_nil))))))))) (pss_one ps_never) pss_nil)
      (pss_one (ps_if (pt_not (pt_val (pe_callB (k_all (K:=K)) rfl (T.own _ (by decide)) boot_all' (pa_cons (pe_comp1 (k_pil (K:=K) (pv 1)) (fun _ _ _ _=>pts_nil) (fun _ _ _ _=>(pe_callF c_is_among hr (pa_cons (pv 0) (pa_cons pe_int (pa_cons (pe_callF c_mask_to (hr.mono (by decide)) (pa_cons (pv 1) pa_nil)) pa_nil)))))) pa_nil)))) (pss_one ps_never) pss_nil)))),?_⟩
    walk_at "w"
    refine ⟨_,_,_,rfl,⟨_, .int _⟩,?_⟩
    walk_at "w"
    have e1:amongV (.int n) 1 60=true:=by
      have:=ok.n1;have:=ok.n2
      show (decide ((1:Int)≤n)&&decide ((n:Int)≤60))=true
      simp;omega
    rw [e1]
    refine iteF ?_
    walk_at "w"
    refine rd_isin (.lst ha) (kb (b:=true) (by decide +kernel)) ?_
    walk_at "w"
    refine rd_lenL (SqL.of ha) ?_
    walk_at "w"
    refine ⟨_,_,_,rfl,⟨_, .int _⟩,?_⟩
    walk_at "w"
    have e2:amongV (.int ((rs.map nV).length:Nat)) 1 60=true:=by
      have:=ok.p1;have:=ok.p2
      rw [List.length_map]
      show (decide ((1:Int)≤(rs.length:Nat))&&decide (((rs.length:Nat):Int)≤60))=true
      simp;omega
    rw [e2]
    refine iteF ?_
    walk_at "w"
    refine ⟨a,rfl,⟨_,SqL.of ha⟩,fun D hD=> ?_⟩
    refine bls_comp (G:=fun _=>true) (src_list (SqL.of ha) rfl) hD (by have:=ok.p2;rw [List.length_map];omega) ?_ ?_
    · intro i H' R hi s kk
      have hi':i<rs.length:=by simpa using hi
      rw [getD_nat hi]
      walk_at "w"
      refine ⟨n,rfl,by have:=ok.n2;omega,?_⟩
      walk_at "w"
      refine ⟨_,_,_,rfl,⟨_, .int _⟩,?_⟩
      have e3:amongV (.int (rs.getD i 0:Nat)) 0 ((2 ^ n - 1:Nat):Int)=true:=by
        have hm:rs.getD i 0∈rs:=by rw [List.getD_eq_getElem?_getD,List.getElem?_eq_getElem hi'];exact List.getElem_mem hi'
        have:=ok.lt _ hm
        have hp:0<2 ^ n:=Nat.two_pow_pos n
        show (decide ((0:Int)≤(rs.getD i 0:Nat))&&decide (((rs.getD i 0:Nat):Int)≤((2 ^ n - 1:Nat):Int)))=true
        simp only [Bool.and_eq_true,decide_eq_true_eq]
        omega
      rw [e3]
      exact kk H' (Same.refl _)
    · intro H' s hl
      walk_at "w"
      refine rd_all (SqL.of hl) ?_
      walk_at "w"
      have e4:((List.range (rs.map nV).length).map fun _=>true).all id=true:=by simp
      rw [e4]
      refine iteF ?_
      walk_at "w"
      exact k H' s
noncomputable def sp_Cloth___init__ (c:Cs):Sp:=fun vs H Q _=>∃ (x dx:Addr) (n:Nat) (a:Addr) (rs:List Nat),vs=[.ref x, .int n, .ref a]∧H x=some (.ins c.Cloth dx [])∧H a=some (.lst (rs.map nV))∧ClOk n rs∧
  ∀ H',(∀ b o,H b=some o→b≠x→H' b=some o)→ClAt c.Cloth H' x n rs→Q .non H'
noncomputable abbrev s_Cloth___init__:Stmt:=inClass (top 32) 0
theorem sc_Cloth___init__:FnScope ["self","ends","rows"] ["self","ends","rows"] (defScope s_Cloth___init__):=⟨rfl,rfl,rfl,by decide +kernel,rfl,by decide +kernel,by decide +kernel⟩
theorem ok_Cloth___init__ {f:Addr} {fd:FuncData} (F:Fun K "__init__" "Cloth.__init__" s_Cloth___init__ f fd) (T:Txt K mg c) (c_need_cloth:CallF P w K mg base "need_cloth" 3 ["ends","rows"] sp_need_cloth):FnOk P w K mg base CX0 4 f fd ["self","ends","rows"] (sp_Cloth___init__ c):=by
  refine F.ok sc_Cloth___init__ (fun vs H Q E h=> ?_) (fun cdv A outer s H vs Q E hr h=> ?_)
  · obtain ⟨x,dx,n,a,rs,rfl,_⟩:=h
    rfl
  · obtain ⟨x,dx,n,a,rs,rfl,hx,ha,ok,k⟩:=h
    refine ⟨_,(pss_cons (ps_expr (pe_callF c_need_cloth hr (pa_cons (pv 1) (pa_cons (pv 2) pa_nil))))
      (pss_cons (ps_fld (pv 0) (pv 1) rfl)
      (pss_one (ps_fld (pv 0) (pe_callTy (k_tuple (K:=K)) rfl (T.own _ (by decide)) boot_tuple' (pa_cons (pv 2) pa_nil)) rfl)))),?_⟩
    walk_at "w"
    refine ⟨n,a,rs,rfl,ha,ok,fun H1 s1=> ?_⟩
    walk_at "w"
    refine rd_set (s1 _ _ hx) T.kd_Cloth.cl T.na_Cloth_width (by decide) ?_
    walk_at "w"
    have nax:a≠x:=ne_of ha hx (by intro z;cases z)
    refine rd_tupOf (SqL.of (by rw [upd_ne nax];exact s1 _ _ ha)) fun t ht=> ?_
    walk_at "w"
    have nxt:x≠t:=ne_of_none upd_same ht
    refine rd_set (by rw [upd_ne nxt];exact upd_same) T.kd_Cloth.cl T.na_Cloth_rows (by show 1<1000;decide) ?_
    walk_at "w"
    refine k _ (fun b o e hb=> ?_) ⟨dx,t,upd_same,by rw [upd_ne (Ne.symm nxt),upd_same]⟩
    have hbt:b≠t:=fun z=>by
      subst z
      rw [upd_ne hb,s1 _ _ e] at ht
      cases ht
    rw [upd_ne hb,upd_ne hbt,upd_ne hb]
    exact s1 _ _ e
theorem cl_make {c:Cs} {H:Hp} {Q:VK} {n:Nat} {a:Addr} {rs:List Nat} (ha:H a=some (.lst (rs.map nV))) (ok:ClOk n rs) (h:∀ H' x,Same H H'→H x=none→ClAt c.Cloth H' x n rs→Q (.ref x) H'):
    ∀ x dx,H x=none→H dx=none→dx≠x→sp_Cloth___init__ c [.ref x, .int n, .ref a] (upd (upd H dx (.own x)) x (.ins c.Cloth dx [])) (fun v H2=>v= .non∧Q (.ref x) H2) E0:=by
  intro x dx hx hdx ne
  have s0:=same_obj (o:=HO.ins c.Cloth dx []) (u:= .own x) hx hdx
  exact ⟨x,dx,n,a,rs,rfl,upd_same,s0 _ _ ha,ok,fun H' kp at'=>⟨rfl,h H' x (fun b o e=>kp b o (s0 b o e) (ne_of_none e hx)) hx at'⟩⟩
noncomputable def sp_Cloth_told (c:Cs):Sp:=fun vs H Q _=>∃ x n rs,vs=[.ref x]∧ClAt c.Cloth H x n rs∧∀ H' p l,Same H H'→H p=none→H l=none→H' p=some (.tup [nV n, .ref l])→H' l=some (.lst (rs.map nV))→Q (.ref p) H'
noncomputable abbrev s_Cloth_told:Stmt:=inClass (top 32) 1
theorem sc_Cloth_told:FnScope ["self"] ["self"] (defScope s_Cloth_told):=⟨rfl,rfl,rfl,by decide +kernel,rfl,by decide +kernel,by decide +kernel⟩
theorem ok_Cloth_told {f:Addr} {fd:FuncData} (F:Fun K "told" "Cloth.told" s_Cloth_told f fd) (T:Txt K mg c):FnOk P w K mg base CX0 1 f fd ["self"] (sp_Cloth_told c):=by
  refine F.ok sc_Cloth_told (fun vs H Q E h=> ?_) (fun cdv A outer s H vs Q E hr h=> ?_)
  · obtain ⟨x,n,rs,rfl,_⟩:=h
    rfl
  · obtain ⟨x,n,rs,rfl,⟨dx,t,h1,h2⟩,k⟩:=h
    refine ⟨_,(pss_one (ps_ret (pe_tup (pa_cons (k_fld (K:=K) (pv 0) rfl) (pa_cons (pe_callTy (k_list (K:=K)) rfl (T.own _ (by decide)) boot_list' (pa_cons (k_fld (K:=K) (pv 0) rfl) pa_nil)) pa_nil))))),?_⟩
    walk_at "w"
    refine ⟨_,_,_,_,_,rfl,h1,T.kd_Cloth.cl,T.na_Cloth_width,rfl,?_⟩
    walk_at "w"
    refine ⟨_,_,_,_,_,rfl,h1,T.kd_Cloth.cl,T.na_Cloth_rows,rfl,?_⟩
    walk_at "w"
    refine rd_listOfT (SqT.of h2) fun l hl=> ?_
    walk_at "w"
    intro p hp
    refine k _ p l ((same_new hl).trans (same_new hp)) ((same_new hl).free hp) hl upd_same ?_
    rw [upd_ne (ne_of_none upd_same hp),upd_same]
noncomputable def sp_Cloth_ends (c:Cs):Sp:=fun vs H Q _=>∃ x n rs,vs=[.ref x]∧ClAt c.Cloth H x n rs∧Q (nV n) H
noncomputable abbrev s_Cloth_ends:Stmt:=inClass (top 32) 2
theorem sc_Cloth_ends:FnScope ["self"] ["self"] (defScope s_Cloth_ends):=⟨rfl,rfl,rfl,by decide +kernel,rfl,by decide +kernel,by decide +kernel⟩
theorem ok_Cloth_ends {f:Addr} {fd:FuncData} (F:Fun K "ends" "Cloth.ends" s_Cloth_ends f fd) (T:Txt K mg c):FnOk P w K mg base CX0 1 f fd ["self"] (sp_Cloth_ends c):=by
  refine F.ok sc_Cloth_ends (fun vs H Q E h=> ?_) (fun cdv A outer s H vs Q E hr h=> ?_)
  · obtain ⟨x,n,rs,rfl,_⟩:=h
    rfl
  · obtain ⟨x,n,rs,rfl,⟨dx,t,h1,h2⟩,k⟩:=h
    refine ⟨_,(pss_one (ps_ret (k_fld (K:=K) (pv 0) rfl))),?_⟩
    walk_at "w"
    exact ⟨_,_,_,_,_,rfl,h1,T.kd_Cloth.cl,T.na_Cloth_width,rfl,k⟩
noncomputable def sp_Cloth_picks (c:Cs):Sp:=fun vs H Q _=>∃ x n rs,vs=[.ref x]∧ClAt c.Cloth H x n rs∧Q (nV rs.length) H
noncomputable abbrev s_Cloth_picks:Stmt:=inClass (top 32) 3
theorem sc_Cloth_picks:FnScope ["self"] ["self"] (defScope s_Cloth_picks):=⟨rfl,rfl,rfl,by decide +kernel,rfl,by decide +kernel,by decide +kernel⟩
theorem ok_Cloth_picks {f:Addr} {fd:FuncData} (F:Fun K "picks" "Cloth.picks" s_Cloth_picks f fd) (T:Txt K mg c):FnOk P w K mg base CX0 1 f fd ["self"] (sp_Cloth_picks c):=by
  refine F.ok sc_Cloth_picks (fun vs H Q E h=> ?_) (fun cdv A outer s H vs Q E hr h=> ?_)
  · obtain ⟨x,n,rs,rfl,_⟩:=h
    rfl
  · obtain ⟨x,n,rs,rfl,⟨dx,t,h1,h2⟩,k⟩:=h
    refine ⟨_,(pss_one (ps_ret (pe_callB (k_len (K:=K)) rfl (T.own _ (by decide)) boot_len (pa_cons (k_fld (K:=K) (pv 0) rfl) pa_nil)))),?_⟩
    walk_at "w"
    refine ⟨_,_,_,_,_,rfl,h1,T.kd_Cloth.cl,T.na_Cloth_rows,rfl,?_⟩
    walk_at "w"
    refine rd_lenT (SqT.of h2) ?_
    rw [List.length_map]
    exact k
end
end K31
open L2
namespace K31
open PySem L2 PySem.Spec PyProof.Rows
seal L2.PE L2.PT L2.PW L2.PA L2.PS L2.PSs L2.PI L2.PG L2.PTs L2.PGs
section
variable {P:Program} {w:World} {K:PySem.W.Frag} {mg:Str→Option Value} {base:Heap} {c:Cs}
noncomputable abbrev colS:Str:="abcdefghijklmnopqrstuvwxyz"
noncomputable def colOk (z:Str):Prop:=z.length=1∧(!(Builtin.Str.occurrences colS z 0 colS.length 1).isEmpty)=true
noncomputable def sp_is_colour:Sp:=fun vs H Q _=>∃ z,vs=[.str z]∧colOk z∧Q (.bl true) H
noncomputable abbrev s_is_colour:Stmt:=top 13
theorem sc_is_colour:FnScope ["thing"] ["thing"] (defScope s_is_colour):=⟨rfl,rfl,rfl,by decide +kernel,rfl,by decide +kernel,by decide +kernel⟩
theorem ok_is_colour {f:Addr} {fd:FuncData} (F:Fun K "is_colour" "is_colour" s_is_colour f fd) (T:Txt K mg c):FnOk P w K mg base CX0 1 f fd ["thing"] sp_is_colour:=by
  refine F.ok sc_is_colour (fun vs H Q E h=> ?_) (fun cdv A outer s H vs Q E hr h=> ?_)
  · obtain ⟨z,rfl,_⟩:=h
    rfl
  · obtain ⟨z,rfl,hz,k⟩:=h
    refine ⟨_,(pss_one (ps_ret (pe_and (pe_callB (k_isin (K:=K)) rfl (T.own _ (by decide)) boot_isinstance (pa_cons (pv 0) (pa_cons (pe_ty rfl (T.own _ (by decide)) boot_str) pa_nil))) (pe_and (pe_cmpR op_eq (pe_callB (k_len (K:=K)) rfl (T.own _ (by decide)) boot_len (pa_cons (pv 0) pa_nil)) pe_int (nomark _)) (pe_one (pe_cmpR op_in_str (pv 0) (pe_gS T.k_COLOURS) (by with_unfolding_all rfl))))))),?_⟩
    walk_at "w"
    refine rd_isin (.str z) (kb (b:=true) (by decide +kernel)) ?_
    walk_at "w"
    refine rd_lenS (by rw [hz.1];decide) ?_
    walk_at "w"
    refine iteP (fun _=> ?_) (fun q=>absurd (by rw [hz.1];rfl) q)
    walk_at "w"
    refine ⟨_,_,rfl,rfl,?_⟩
    rw [hz.2]
    exact k
noncomputable def sp_need:Sp:=fun vs H Q _=>∃ z,vs=[.bl true, .str z]∧Q .non H
noncomputable abbrev s_need:Stmt:=top 15
theorem sc_need:FnScope ["holds","words"] ["holds","words"] (defScope s_need):=⟨rfl,rfl,rfl,by decide +kernel,rfl,by decide +kernel,by decide +kernel⟩
theorem ok_need {f:Addr} {fd:FuncData} (F:Fun K "need" "need" s_need f fd) (T:Txt K mg c):FnOk P w K mg base CX0 1 f fd ["holds","words"] sp_need:=by
  refine F.ok sc_need (fun vs H Q E h=> ?_) (fun cdv A outer s H vs Q E hr h=> ?_)
  · obtain ⟨z,rfl,_⟩:=h
    rfl
  · obtain ⟨z,rfl,k⟩:=h
    refine ⟨_,(pss_one (ps_if (pt_not (pt_val (pv 0))) (pss_one ps_never) pss_nil)),?_⟩
    walk_at "w"
    exact k
noncomputable def sp_is_list:Sp:=fun vs H Q _=>∃ a xs,∃ lo hi:Int,vs=[.ref a, .int lo, .int hi]∧H a=some (.lst xs)∧lo≤xs.length∧xs.length≤hi∧Q (.bl true) H
noncomputable abbrev s_is_list:Stmt:=top 16
theorem sc_is_list:FnScope ["thing","least","most"] ["thing","least","most"] (defScope s_is_list):=⟨rfl,rfl,rfl,by decide +kernel,rfl,by decide +kernel,by decide +kernel⟩
theorem ok_is_list {f:Addr} {fd:FuncData} (F:Fun K "is_list" "is_list" s_is_list f fd) (T:Txt K mg c) (c_is_among:CallF P w K mg base "is_among" 2 ["thing","least","most"] (sp_is_among K)):FnOk P w K mg base CX0 3 f fd ["thing","least","most"] sp_is_list:=by
  refine F.ok sc_is_list (fun vs H Q E h=> ?_) (fun cdv A outer s H vs Q E hr h=> ?_)
  · obtain ⟨a,xs,lo,hi,rfl,_⟩:=h
    rfl
  · obtain ⟨a,xs,lo,hi,rfl,ha,h1,h2,k⟩:=h
    refine ⟨_,(pss_one (ps_ret (pe_and (pe_callB (k_isin (K:=K)) rfl (T.own _ (by decide)) boot_isinstance (pa_cons (pv 0) (pa_cons (pe_ty rfl (T.own _ (by decide)) boot_list') pa_nil))) (pe_one (pe_callF c_is_among hr (pa_cons (pe_callB (k_len (K:=K)) rfl (T.own _ (by decide)) boot_len (pa_cons (pv 0) pa_nil)) (pa_cons (pv 1) (pa_cons (pv 2) pa_nil)))))))),?_⟩
    walk_at "w"
    refine rd_isin (.lst ha) (kb (b:=true) (by decide +kernel)) ?_
    walk_at "w"
    refine rd_lenL (SqL.of ha) ?_
    walk_at "w"
    refine ⟨_,_,_,rfl,⟨_, .int _⟩,?_⟩
    refine fin_b ?_ k
    show (decide (lo≤(xs.length:Nat))&&decide (((xs.length:Nat):Int)≤hi))=true
    simp [h1,h2]
noncomputable def Rise (m:Nat) (ns:List Nat):Prop:=∀ i,i<ns.length→(0::ns).getD i 0+1≤ns.getD i 0∧ns.getD i 0≤m
noncomputable def sp_is_rising:Sp:=fun vs H Q _=>∃ a ns m,vs=[.ref a,nV m]∧H a=some (.lst (ns.map nV))∧Rise m ns∧∀ H',Same H H'→Q (.bl true) H'
noncomputable abbrev s_is_rising:Stmt:=top 17
theorem sc_is_rising:FnScope ["thing","most","last","number"] ["thing","most"] (defScope s_is_rising):=⟨rfl,rfl,rfl,by decide +kernel,rfl,by decide +kernel,by decide +kernel⟩
theorem ok_is_rising {f:Addr} {fd:FuncData} (F:Fun K "is_rising" "is_rising" s_is_rising f fd) (T:Txt K mg c) (c_is_among:CallF P w K mg base "is_among" 2 ["thing","least","most"] (sp_is_among K)):FnOk P w K mg base CX0 3 f fd ["thing","most"] sp_is_rising:=by
  refine F.ok sc_is_rising (fun vs H Q E h=> ?_) (fun cdv A outer s H vs Q E hr h=> ?_)
  · obtain ⟨a,ns,m,rfl,_⟩:=h
    rfl
  · obtain ⟨a,ns,m,rfl,ha,hr',k⟩:=h
    refine ⟨_,(pss_cons (ps_if (pt_not (pt_val (pe_callB (k_isin (K:=K)) rfl (T.own _ (by decide)) boot_isinstance (pa_cons (pv 0) (pa_cons (pe_ty rfl (T.own _ (by decide)) boot_list') pa_nil))))) (pss_one (ps_ret pe_bl)) pss_nil)
      (pss_cons (ps_set (i:=2) sc_is_rising.nd rfl (Or.inl rfl) pe_int)
      (pss_cons (ps_for PassesOwn.never rfl (k_pil (K:=K) (pv 0)) (pg_name (i:=3) sc_is_rising.nd rfl (Or.inl rfl)) (pss_cons (ps_if (pt_not (pt_val (pe_callF c_is_among hr (pa_cons (pv 3) (pa_cons (pe_op op_add (pv 2) pe_int) (pa_cons (pv 1) pa_nil)))))) (pss_one (ps_ret pe_bl)) pss_nil)
      (pss_one (ps_set (i:=2) sc_is_rising.nd rfl (Or.inl rfl) (pv 3)))))
      (pss_one (ps_ret pe_bl))))),?_⟩
    walk_at "w"
    refine rd_isin (.lst ha) (kb (b:=true) (by decide +kernel)) ?_
    walk_at "w"
    refine ⟨a,rfl,⟨_,SqL.of ha⟩,for_src (fs_list (SqL.of ha)) (fun i σ H3=>∃ x,σ=[some (.ref a),some (nV m),some (nV ((0::ns).getD i 0)),x]∧Same H H3) ⟨_,rfl,Same.refl _⟩ (fun i σ H3 ⟨_,_,s⟩=>s) ?_ ?_⟩
    · rintro i σ H' H3 hi ⟨x,rfl,s'⟩ s3
      have hi':i<ns.length:=by simpa using hi
      have hq:=hr' i hi'
      rw [getD_nat hi]
      walk_at "w"
      refine ⟨_,_,_,rfl,⟨_, .int _⟩,?_⟩
      walk_at "w"
      have e:amongV (.int (ns.getD i 0:Nat)) (((0::ns).getD i 0:Nat)+1) (m:Nat)=true:=by
        show (decide ((((0::ns).getD i 0:Nat):Int)+1≤(ns.getD i 0:Nat))&&decide (((ns.getD i 0:Nat):Int)≤(m:Nat)))=true
        simp only [Bool.and_eq_true,decide_eq_true_eq]
        omega
      rw [e]
      refine iteF ?_
      walk_at "w"
      exact ⟨_,rfl,s'.trans s3⟩
    · rintro σ H3 ⟨x,rfl,s3⟩
      walk_at "w"
      exact k H3 s3
noncomputable def sp_are_rising:Sp:=fun vs H Q _=>∃ v ls m,vs=[v,nV m]∧Rp H FT 2 v (dLL ls)∧(∀ l∈ls,Rise m l)∧∀ H',Same H H'→Q (.bl true) H'
noncomputable abbrev s_are_rising:Stmt:=top 18
theorem sc_are_rising:FnScope ["thing","most"] ["thing","most"] (defScope s_are_rising):=⟨rfl,rfl,rfl,by decide +kernel,rfl,by decide +kernel,by decide +kernel⟩
theorem ok_are_rising {f:Addr} {fd:FuncData} (F:Fun K "are_rising" "are_rising" s_are_rising f fd) (T:Txt K mg c) (c_is_rising:CallF P w K mg base "is_rising" 3 ["thing","most"] sp_is_rising):FnOk P w K mg base CX0 4 f fd ["thing","most"] sp_are_rising:=by
  refine F.ok sc_are_rising (fun vs H Q E h=> ?_) (fun cdv A outer s H vs Q E hr h=> ?_)
  · obtain ⟨v,ls,m,rfl,_⟩:=h
    rfl
  · obtain ⟨v,ls,m,rfl,rv,hr',k⟩:=h
    obtain ⟨m',a,vs,em,rfl,ha,_,hl,hb,el⟩:=lst_of rv
    cases em
    rw [List.length_map] at hl
    refine ⟨_,(pss_one (ps_ret (pe_callB (k_all (K:=K)) rfl (T.own _ (by decide)) boot_all' (pa_cons (pe_comp1 (k_pil (K:=K) (pv 0)) (fun _ _ _ _=>pts_nil) (fun _ _ _ _=>(pe_callF c_is_rising hr (pa_cons (pv 0) (pa_cons (pv 1) pa_nil))))) pa_nil)))),?_⟩
    walk_at "w"
    refine ⟨a,rfl,⟨_,SqL.of ha⟩,fun D hD=> ?_⟩
    refine bls_comp (G:=fun _=>true) (src_list (SqL.of ha) rfl) hD hb ?_ ?_
    · intro i H' R hi s kk
      have hi':i<ls.length:=by omega
      have r:=el i (by simpa using hi')
      rw [getD_map dL ls i .non [] hi'] at r
      obtain ⟨b,eb,hb2,_,_⟩:=dL_of r
      rw [eb]
      walk_at "w"
      exact ⟨b,_,m,rfl,s _ _ hb2,hr' _ (getD_mem hi'),kk⟩
    · intro H' s hl2
      walk_at "w"
      refine rd_all (SqL.of hl2) ?_
      refine fin_b ?_ (k H' s)
      simp
noncomputable def sp_are_colours:Sp:=fun vs H Q _=>∃ (a:Addr) (zs:List Str),vs=[.ref a,nV zs.length]∧H a=some (.lst (zs.map V.str))∧zs.length≤1000∧(∀ z∈zs,colOk z)∧∀ H',Same H H'→Q (.bl true) H'
noncomputable abbrev s_are_colours:Stmt:=top 19
theorem sc_are_colours:FnScope ["thing","many"] ["thing","many"] (defScope s_are_colours):=⟨rfl,rfl,rfl,by decide +kernel,rfl,by decide +kernel,by decide +kernel⟩
theorem ok_are_colours {f:Addr} {fd:FuncData} (F:Fun K "are_colours" "are_colours" s_are_colours f fd) (T:Txt K mg c) (c_is_list:CallF P w K mg base "is_list" 3 ["thing","least","most"] sp_is_list) (c_is_colour:CallF P w K mg base "is_colour" 1 ["thing"] sp_is_colour):FnOk P w K mg base CX0 4 f fd ["thing","many"] sp_are_colours:=by
  refine F.ok sc_are_colours (fun vs H Q E h=> ?_) (fun cdv A outer s H vs Q E hr h=> ?_)
  · obtain ⟨a,zs,rfl,_⟩:=h
    rfl
  · obtain ⟨a,zs,rfl,ha,hz,hc,k⟩:=h
    refine ⟨_,(pss_one (ps_ret (pe_and (pe_callF c_is_list hr (pa_cons (pv 0) (pa_cons (pv 1) (pa_cons (pv 1) pa_nil)))) (pe_one (pe_callB (k_all (K:=K)) rfl (T.own _ (by decide)) boot_all' (pa_cons (pe_comp1 (k_pil (K:=K) (pv 0)) (fun _ _ _ _=>pts_nil) (fun _ _ _ _=>(pe_callF c_is_colour (hr.mono (by decide)) (pa_cons (pv 0) pa_nil)))) pa_nil)))))),?_⟩
    walk_at "w"
    refine ⟨a,_,_,_,rfl,ha,by simp,by simp,?_⟩
    walk_at "w"
    refine ⟨a,rfl,⟨_,SqL.of ha⟩,fun D hD=> ?_⟩
    refine bls_comp (G:=fun _=>true) (src_list (SqL.of ha) rfl) hD (by rw [List.length_map];omega) ?_ ?_
    · intro i H' R hi s kk
      have hi':i<zs.length:=by simpa using hi
      rw [getD_str hi]
      walk_at "w"
      exact ⟨_,rfl,hc _ (getD_mem hi'),kk H' (Same.refl _)⟩
    · intro H' s hl2
      walk_at "w"
      refine rd_all (SqL.of hl2) ?_
      refine fin_b ?_ (k H' s)
      simp
structure Dr where
  sh:Nat
  tr:Nat
  th:List Nat
  ti:List (List Nat)
  td:List (List Nat)
  wa:List Str
  we:List Str
structure DrOk (d:Dr):Prop where
  s1:1≤d.sh
  s2:d.sh≤16
  t1:1≤d.tr
  t2:d.tr≤16
  h1:1≤d.th.length
  h2:d.th.length≤60
  hs:∀ n∈d.th,n≤d.sh
  il:d.ti.length=d.tr
  ir:∀ l∈d.ti,Rise d.sh l
  p1:1≤d.td.length
  p2:d.td.length≤60
  pr:∀ l∈d.td,Rise d.tr l
  wl:d.wa.length=d.th.length
  wc:∀ z∈d.wa,colOk z
  fl:d.we.length=d.td.length
  fc:∀ z∈d.we,colOk z
structure Parts (H:Hp) (d:Dr) (vs:List V):Prop where
  ex:∃ a1 v2 v3 a4 a5,vs=[nV d.sh,nV d.tr, .ref a1,v2,v3, .ref a4, .ref a5]∧H a1=some (.lst (d.th.map nV))∧Rp H FT 2 v2 (dLL d.ti)∧Rp H FT 2 v3 (dLL d.td)∧H a4=some (.lst (d.wa.map V.str))∧H a5=some (.lst (d.we.map V.str))
theorem Parts.same {H H':Hp} {d:Dr} {vs:List V} (p:Parts H d vs) (s:Same H H'):Parts H' d vs:=by
  obtain ⟨a1,v2,v3,a4,a5,e,h1,h2,h3,h4,h5⟩:=p.ex
  exact ⟨a1,v2,v3,a4,a5,e,s _ _ h1,h2.same s,h3.same s,s _ _ h4,s _ _ h5⟩
theorem am {n:Nat} {lo hi:Int} (h1:lo≤n) (h2:(n:Int)≤hi):amongV (nV n) lo hi=true:=by
  show (decide (lo≤(n:Nat))&&decide (((n:Nat):Int)≤hi))=true
  simp [h1,h2]
noncomputable def sp_need_draft:Sp:=fun vs H Q _=>∃ d,Parts H d vs∧DrOk d∧∀ H',Same H H'→Q .non H'
noncomputable abbrev s_need_draft:Stmt:=top 20
theorem sc_need_draft:FnScope ["shafts","treadles","threading","ties","treading","warp","weft"] ["shafts","treadles","threading","ties","treading","warp","weft"] (defScope s_need_draft):=⟨rfl,rfl,rfl,by decide +kernel,rfl,by decide +kernel,by decide +kernel⟩
theorem ok_need_draft {f:Addr} {fd:FuncData} (F:Fun K "need_draft" "need_draft" s_need_draft f fd) (T:Txt K mg c) (c_need:CallF P w K mg base "need" 1 ["holds","words"] sp_need) (c_is_among:CallF P w K mg base "is_among" 2 ["thing","least","most"] (sp_is_among K)) (c_is_list:CallF P w K mg base "is_list" 3 ["thing","least","most"] sp_is_list) (c_are_rising:CallF P w K mg base "are_rising" 4 ["thing","most"] sp_are_rising) (c_are_colours:CallF P w K mg base "are_colours" 4 ["thing","many"] sp_are_colours):FnOk P w K mg base CX0 5 f fd ["shafts","treadles","threading","ties","treading","warp","weft"] sp_need_draft:=by
  refine F.ok sc_need_draft (fun vs H Q E h=> ?_) (fun cdv A outer s H vs Q E hr h=> ?_)
  · obtain ⟨d,⟨a1,v2,v3,a4,a5,rfl,_⟩,_⟩:=h
    rfl
  · obtain ⟨d,⟨a1,v2,v3,a4,a5,rfl,h1,h2,h3,h4,h5⟩,ok,k⟩:=h
    obtain ⟨m2,a2,vs2,em2,rfl,ha2,_,hl2,hb2,el2⟩:=lst_of h2
    obtain ⟨m3,a3,vs3,em3,rfl,ha3,_,hl3,hb3,el3⟩:=lst_of h3
    rw [List.length_map] at hl2 hl3
    refine ⟨_,(pss_cons (ps_expr (pe_callF c_need (hr.mono (by decide)) (pa_cons (pe_callF c_is_among (hr.mono (by decide)) (pa_cons (pv 0) (pa_cons pe_int (pa_cons (pe_gI T.k_MOST_SHAFTS) pa_nil)))) (pa_cons pe_str pa_nil))))
      (pss_cons (ps_expr (pe_callF c_need (hr.mono (by decide)) (pa_cons (pe_callF c_is_among (hr.mono (by decide)) (pa_cons (pv 1) (pa_cons pe_int (pa_cons (pe_gI T.k_MOST_TREADLES) pa_nil)))) (pa_cons pe_str pa_nil))))
      (pss_cons (ps_expr (pe_callF c_need (hr.mono (by decide)) (pa_cons (pe_callF c_is_list (hr.mono (by decide)) (pa_cons (pv 2) (pa_cons pe_int (pa_cons (pe_gI T.k_MOST_ENDS) pa_nil)))) (pa_cons pe_str pa_nil))))
      (pss_cons (ps_expr (pe_callF c_need (hr.mono (by decide)) (pa_cons (pe_callB (k_all (K:=K)) rfl (T.own _ (by decide)) boot_all' (pa_cons (pe_comp1 (k_pil (K:=K) (pv 2)) (fun _ _ _ _=>pts_nil) (fun _ _ _ _=>(pe_callF c_is_among (hr.mono (by decide)) (pa_cons (pv 0) (pa_cons pe_int (pa_cons (pv 1) pa_nil)))))) pa_nil)) (pa_cons pe_str pa_nil))))
      (pss_cons (ps_expr (pe_callF c_need (hr.mono (by decide)) (pa_cons (pe_callF c_is_list (hr.mono (by decide)) (pa_cons (pv 3) (pa_cons (pv 1) (pa_cons (pv 1) pa_nil)))) (pa_cons pe_str pa_nil))))
      (pss_cons (ps_expr (pe_callF c_need (hr.mono (by decide)) (pa_cons (pe_callF c_are_rising hr (pa_cons (pv 3) (pa_cons (pv 0) pa_nil))) (pa_cons pe_str pa_nil))))
      (pss_cons (ps_expr (pe_callF c_need (hr.mono (by decide)) (pa_cons (pe_callF c_is_list (hr.mono (by decide)) (pa_cons (pv 4) (pa_cons pe_int (pa_cons (pe_gI T.k_MOST_PICKS) pa_nil)))) (pa_cons pe_str pa_nil))))
      (pss_cons (ps_expr (pe_callF c_need (hr.mono (by decide)) (pa_cons (pe_callF c_are_rising hr (pa_cons (pv 4) (pa_cons (pv 1) pa_nil))) (pa_cons pe_str pa_nil))))
      (pss_cons (ps_expr (pe_callF c_need (hr.mono (by decide)) (pa_cons (pe_callF c_are_colours hr (pa_cons (pv 5) (pa_cons (pe_callB (k_len (K:=K)) rfl (T.own _ (by decide)) boot_len (pa_cons (pv 2) pa_nil)) pa_nil))) (pa_cons pe_str pa_nil))))
      (pss_one (ps_expr (pe_callF c_need (hr.mono (by decide)) (pa_cons (pe_callF c_are_colours hr (pa_cons (pv 6) (pa_cons (pe_callB (k_len (K:=K)) rfl (T.own _ (by decide)) boot_len (pa_cons (pv 4) pa_nil)) pa_nil))) (pa_cons pe_str pa_nil)))))))))))))),?_⟩
    walk_at "w"
    refine ⟨_,_,_,rfl,⟨_, .int _⟩,?_⟩
    walk_at "w"
    rw [am (by have:=ok.s1;omega) (by have:=ok.s2;omega)]
    refine ⟨_,rfl,?_⟩
    walk_at "w"
    refine ⟨_,_,_,rfl,⟨_, .int _⟩,?_⟩
    walk_at "w"
    rw [am (by have:=ok.t1;omega) (by have:=ok.t2;omega)]
    refine ⟨_,rfl,?_⟩
    walk_at "w"
    refine ⟨a1,_,_,_,rfl,h1,by have:=ok.h1;simp;omega,by have:=ok.h2;simp;omega,?_⟩
    walk_at "w"
    refine ⟨_,rfl,?_⟩
    walk_at "w"
    refine ⟨a1,rfl,⟨_,SqL.of h1⟩,fun D hD=> ?_⟩
    refine bls_comp (G:=fun _=>true) (src_list (SqL.of h1) rfl) hD (by have:=ok.h2;rw [List.length_map];omega) ?_ ?_
    · intro i H' R hi s kk
      have hi':i<d.th.length:=by simpa using hi
      rw [getD_nat hi]
      walk_at "w"
      refine ⟨_,_,_,rfl,⟨_, .int _⟩,?_⟩
      have:=ok.hs _ (getD_mem (y:=0) hi')
      rw [am (by omega) (by omega)]
      exact kk H' (Same.refl _)
    intro H1 s1 hl1
    walk_at "w"
    refine rd_all (SqL.of hl1) ?_
    rw [show ((List.range (d.th.map nV).length).map fun _=>true).all id=true by simp]
    walk_at "w"
    refine ⟨_,rfl,?_⟩
    walk_at "w"
    refine ⟨a2,_,_,_,rfl,s1 _ _ ha2,by have:=ok.il;omega,by have:=ok.il;omega,?_⟩
    walk_at "w"
    refine ⟨_,rfl,?_⟩
    walk_at "w"
    refine ⟨_,d.ti,d.sh,rfl,h2.same s1,ok.ir,fun H2 s2=> ?_⟩
    walk_at "w"
    refine ⟨_,rfl,?_⟩
    walk_at "w"
    have s12:=s1.trans s2
    refine ⟨a3,_,_,_,rfl,s12 _ _ ha3,by have:=ok.p1;omega,by have:=ok.p2;omega,?_⟩
    walk_at "w"
    refine ⟨_,rfl,?_⟩
    walk_at "w"
    refine ⟨_,d.td,d.tr,rfl,h3.same s12,ok.pr,fun H3 s3=> ?_⟩
    have s13:=s12.trans s3
    walk_at "w"
    refine ⟨_,rfl,?_⟩
    walk_at "w"
    refine rd_lenL (SqL.of (s13 _ _ h1)) ?_
    walk_at "w"
    refine ⟨a4,d.wa,by rw [List.length_map,ok.wl],s13 _ _ h4,by have:=ok.wl;have:=ok.h2;omega,ok.wc,fun H4 s4=> ?_⟩
    have s14:=s13.trans s4
    walk_at "w"
    refine ⟨_,rfl,?_⟩
    walk_at "w"
    refine rd_lenL (SqL.of (s14 _ _ ha3)) ?_
    walk_at "w"
    refine ⟨a5,d.we,by rw [hl3,ok.fl],s14 _ _ h5,by have:=ok.fl;have:=ok.p2;omega,ok.fc,fun H5 s5=> ?_⟩
    walk_at "w"
    refine ⟨_,rfl,?_⟩
    walk_at "w"
    exact k _ (s14.trans s5)
noncomputable def DrAt (C:Addr) (H:Hp) (x:Addr) (d:Dr):Prop:=∃ dx v1 v2 v3 v4 v5,H x=some (.ins C dx [("shafts",nV d.sh),("treadles",nV d.tr),("threading",v1),("ties",v2),("treading",v3),("warp",v4),("weft",v5)])∧
  Rp H FT 1 v1 (dT d.th)∧Rp H FT 2 v2 (dTT d.ti)∧Rp H FT 2 v3 (dTT d.td)∧Rp H FT 1 v4 (dST d.wa)∧Rp H FT 1 v5 (dST d.we)
theorem DrAt.same {C:Addr} {H H':Hp} {x:Addr} {d:Dr} (h:DrAt C H x d) (s:Same H H'):DrAt C H' x d:=by
  obtain ⟨dx,v1,v2,v3,v4,v5,h0,h1,h2,h3,h4,h5⟩:=h
  exact ⟨dx,v1,v2,v3,v4,v5,s _ _ h0,h1.same s,h2.same s,h3.same s,h4.same s,h5.same s⟩
noncomputable def sp_Draft___init__ (c:Cs):Sp:=fun vs H Q _=>∃ (x dx:Addr) (ws:List V) (d:Dr),vs= .ref x::ws∧H x=some (.ins c.Draft dx [])∧Parts H d ws∧DrOk d∧∀ H',But x H H'→DrAt c.Draft H' x d→Q .non H'
noncomputable abbrev s_Draft___init__:Stmt:=inClass (top 21) 0
theorem sc_Draft___init__:FnScope ["self","shafts","treadles","threading","ties","treading","warp","weft"] ["self","shafts","treadles","threading","ties","treading","warp","weft"] (defScope s_Draft___init__):=⟨rfl,rfl,rfl,by decide +kernel,rfl,by decide +kernel,by decide +kernel⟩
theorem ok_Draft___init__ {f:Addr} {fd:FuncData} (F:Fun K "__init__" "Draft.__init__" s_Draft___init__ f fd) (T:Txt K mg c) (c_need_draft:CallF P w K mg base "need_draft" 5 ["shafts","treadles","threading","ties","treading","warp","weft"] sp_need_draft):FnOk P w K mg base CX0 6 f fd ["self","shafts","treadles","threading","ties","treading","warp","weft"] (sp_Draft___init__ c):=by
  refine F.ok sc_Draft___init__ (fun vs H Q E h=> ?_) (fun cdv A outer s H vs Q E hr h=> ?_)
  · obtain ⟨x,dx,ws,d,rfl,_,⟨a1,v2,v3,a4,a5,rfl,_⟩,_⟩:=h
    rfl
  · obtain ⟨x,dx,ws,d,rfl,hx,ps,ok,k⟩:=h
    have ps0:=ps
    obtain ⟨a1,v2,v3,a4,a5,rfl,h1,h2,h3,h4,h5⟩:=ps
    refine ⟨_,(pss_cons (ps_expr (pe_callF c_need_draft hr (pa_cons (pv 1) (pa_cons (pv 2) (pa_cons (pv 3) (pa_cons (pv 4) (pa_cons (pv 5) (pa_cons (pv 6) (pa_cons (pv 7) pa_nil)))))))))
      (pss_cons (ps_fld (pv 0) (pv 1) rfl)
      (pss_cons (ps_fld (pv 0) (pv 2) rfl)
      (pss_cons (ps_fld (pv 0) (pe_callTy (k_tuple (K:=K)) rfl (T.own _ (by decide)) boot_tuple' (pa_cons (pv 3) pa_nil)) rfl)
      (pss_cons (ps_fld (pv 0) (pe_callTy (k_tuple (K:=K)) rfl (T.own _ (by decide)) boot_tuple' (pa_cons (pe_comp1 (k_pil (K:=K) (pv 4)) (fun _ _ _ _=>pts_nil) (fun _ _ _ _=>(pe_callTy (k_tuple (K:=K)) rfl (T.own _ (by decide)) boot_tuple' (pa_cons (pv 0) pa_nil)))) pa_nil)) rfl)
      (pss_cons (ps_fld (pv 0) (pe_callTy (k_tuple (K:=K)) rfl (T.own _ (by decide)) boot_tuple' (pa_cons (pe_comp1 (k_pil (K:=K) (pv 5)) (fun _ _ _ _=>pts_nil) (fun _ _ _ _=>(pe_callTy (k_tuple (K:=K)) rfl (T.own _ (by decide)) boot_tuple' (pa_cons (pv 0) pa_nil)))) pa_nil)) rfl)
      (pss_cons (ps_fld (pv 0) (pe_callTy (k_tuple (K:=K)) rfl (T.own _ (by decide)) boot_tuple' (pa_cons (pv 6) pa_nil)) rfl)
      (pss_one (ps_fld (pv 0) (pe_callTy (k_tuple (K:=K)) rfl (T.own _ (by decide)) boot_tuple' (pa_cons (pv 7) pa_nil)) rfl))))))))),?_⟩
    walk_at "w"
    refine ⟨d,ps0,ok,fun H1 s1=> ?_⟩
    walk_at "w"
    have B:But x H H1:=But.of s1
    have hx1:=s1 _ _ hx
    refine rd_set hx1 T.kd_Draft.cl T.na_Draft_shafts (by decide) ?_
    replace B:=B.put (o:=HO.ins c.Draft dx (putF "shafts" (nV d.sh) []))
    have hx2:upd H1 x (HO.ins c.Draft dx (putF "shafts" (nV d.sh) [])) x=_:=upd_same
    generalize upd H1 x (HO.ins c.Draft dx (putF "shafts" (nV d.sh) []))=H2 at B hx2 ⊢
    walk_at "w"
    refine rd_set hx2 T.kd_Draft.cl T.na_Draft_treadles (by show 1<1000;decide) ?_
    replace B:=B.put (o:=HO.ins c.Draft dx (putF "treadles" (nV d.tr) (putF "shafts" (nV d.sh) [])))
    have hx3:upd H2 x (HO.ins c.Draft dx (putF "treadles" (nV d.tr) (putF "shafts" (nV d.sh) []))) x=_:=upd_same
    generalize upd H2 x (HO.ins c.Draft dx (putF "treadles" (nV d.tr) (putF "shafts" (nV d.sh) [])))=H3 at B hx3 ⊢
    walk_at "w"
    refine rd_tupOf (SqL.of (B _ _ h1 (ne_of h1 hx (by intro z;cases z)))) fun t1 ht1=> ?_
    walk_at "w"
    have hx3':=same_new (o:=HO.tup (d.th.map nV)) ht1 _ _ hx3
    have r1:Rp (upd H3 t1 (HO.tup (d.th.map nV))) FT 1 (.ref t1) (dT d.th):=rp_T upd_same (by have:=ok.h2;omega)
    replace B:=B.same (same_new (o:=HO.tup (d.th.map nV)) ht1)
    generalize upd H3 t1 (HO.tup (d.th.map nV))=H4 at B hx3' r1 ⊢
    refine rd_set hx3' T.kd_Draft.cl T.na_Draft_threading (by show 2<1000;decide) ?_
    replace r1:=r1.ins (o:=HO.ins c.Draft dx (putF "threading" (.ref t1) (putF "treadles" (nV d.tr) (putF "shafts" (nV d.sh) [])))) hx3'
    replace B:=B.put (o:=HO.ins c.Draft dx (putF "threading" (.ref t1) (putF "treadles" (nV d.tr) (putF "shafts" (nV d.sh) []))))
    have hx5:upd H4 x (HO.ins c.Draft dx (putF "threading" (.ref t1) (putF "treadles" (nV d.tr) (putF "shafts" (nV d.sh) [])))) x=_:=upd_same
    generalize upd H4 x (HO.ins c.Draft dx (putF "threading" (.ref t1) (putF "treadles" (nV d.tr) (putF "shafts" (nV d.sh) []))))=H5 at B hx5 r1 ⊢
    walk_at "w"
    obtain ⟨m2,a2,vs2,em2,rfl,ha2,_,hl2,hb2,el2⟩:=lst_of (B.rp hx h2)
    cases em2
    rw [List.length_map] at hl2
    refine ⟨a2,rfl,⟨_,SqL.of ha2⟩,fun D hD=> ?_⟩
    refine comp_map (m:=1) (G:=fun i=>dT (d.ti.getD i [])) (src_list (SqL.of ha2) rfl) hD hb2 ?_ ?_
    · intro i H' R hi s kk
      have hi':i<d.ti.length:=by omega
      have r:=el2 i (by simpa using hi')
      rw [getD_map dL d.ti i .non [] hi'] at r
      obtain ⟨b,eb,hb3,_,hb4⟩:=dL_of r
      rw [eb]
      walk_at "w"
      exact rd_tupOf (SqL.of (s _ _ hb3)) fun q hq=>kk _ _ (same_new hq) (rp_T upd_same hb4)
    intro H6 ys s6 hl6 r2
    rw [hl2,map_T] at r2
    walk_at "w"
    refine rd_tupOf (SqL.of hl6) fun t2 ht2=> ?_
    walk_at "w"
    replace r2:Rp (upd H6 t2 (HO.tup ys)) FT 2 (.ref t2) (dTT d.ti):=(r2.tupd hl6 ht2).any
    have s62:=s6.trans (same_new (o:=HO.tup ys) ht2)
    replace B:=B.same s62
    replace r1:=r1.same s62
    have hx6:=s62 _ _ hx5
    generalize upd H6 t2 (HO.tup ys)=H7 at B hx6 r1 r2 ⊢
    refine rd_set hx6 T.kd_Draft.cl T.na_Draft_ties (by show 3<1000;decide) ?_
    generalize ef:putF "ties" (V.ref t2) _=f7
    replace r1:=r1.ins (o:=HO.ins c.Draft dx f7) hx6
    replace r2:=r2.ins (o:=HO.ins c.Draft dx f7) hx6
    replace B:=B.put (o:=HO.ins c.Draft dx f7)
    have hx8:upd H7 x (HO.ins c.Draft dx f7) x=_:=upd_same
    generalize upd H7 x (HO.ins c.Draft dx f7)=H8 at B hx8 r1 r2 ⊢
    subst ef
    walk_at "w"
    obtain ⟨m3,a3,vs3,em3,rfl,ha3,_,hl3,hb3,el3⟩:=lst_of (B.rp hx h3)
    cases em3
    rw [List.length_map] at hl3
    refine ⟨a3,rfl,⟨_,SqL.of ha3⟩,fun D hD=> ?_⟩
    refine comp_map (m:=1) (G:=fun i=>dT (d.td.getD i [])) (src_list (SqL.of ha3) rfl) hD hb3 ?_ ?_
    · intro i H' R hi s kk
      have hi':i<d.td.length:=by omega
      have r:=el3 i (by simpa using hi')
      rw [getD_map dL d.td i .non [] hi'] at r
      obtain ⟨b,eb,hb3,_,hb4⟩:=dL_of r
      rw [eb]
      walk_at "w"
      exact rd_tupOf (SqL.of (s _ _ hb3)) fun q hq=>kk _ _ (same_new hq) (rp_T upd_same hb4)
    intro H9 ys9 s9 hl9 r3
    rw [hl3,map_T] at r3
    walk_at "w"
    refine rd_tupOf (SqL.of hl9) fun t3 ht3=> ?_
    walk_at "w"
    replace r3:Rp (upd H9 t3 (HO.tup ys9)) FT 2 (.ref t3) (dTT d.td):=(r3.tupd hl9 ht3).any
    have s93:=s9.trans (same_new (o:=HO.tup ys9) ht3)
    replace B:=B.same s93
    replace r1:=r1.same s93
    replace r2:=r2.same s93
    have hx9:=s93 _ _ hx8
    generalize upd H9 t3 (HO.tup ys9)=HA at B hx9 r1 r2 r3 ⊢
    refine rd_set hx9 T.kd_Draft.cl T.na_Draft_treading (by show 4<1000;decide) ?_
    generalize ef:putF "treading" (V.ref t3) _=f9
    replace r1:=r1.ins (o:=HO.ins c.Draft dx f9) hx9
    replace r2:=r2.ins (o:=HO.ins c.Draft dx f9) hx9
    replace r3:=r3.ins (o:=HO.ins c.Draft dx f9) hx9
    replace B:=B.put (o:=HO.ins c.Draft dx f9)
    have hxB:upd HA x (HO.ins c.Draft dx f9) x=_:=upd_same
    generalize upd HA x (HO.ins c.Draft dx f9)=HB at B hxB r1 r2 r3 ⊢
    subst ef
    walk_at "w"
    refine rd_tupOf (SqL.of (B _ _ h4 (ne_of h4 hx (by intro z;cases z)))) fun t4 ht4=> ?_
    walk_at "w"
    have r4:Rp (upd HB t4 (HO.tup (d.wa.map V.str))) FT 1 (.ref t4) (dST d.wa):=rp_ST upd_same (by have:=ok.h2;have:=ok.wl;omega)
    have sB:=same_new (o:=HO.tup (d.wa.map V.str)) ht4
    replace B:=B.same sB
    replace r1:=r1.same sB
    replace r2:=r2.same sB
    replace r3:=r3.same sB
    replace hxB:=sB _ _ hxB
    generalize upd HB t4 (HO.tup (d.wa.map V.str))=HC at B hxB r1 r2 r3 r4 ⊢
    refine rd_set hxB T.kd_Draft.cl T.na_Draft_warp (by show 5<1000;decide) ?_
    generalize ef:putF "warp" (V.ref t4) _=fC
    replace r1:=r1.ins (o:=HO.ins c.Draft dx fC) hxB
    replace r2:=r2.ins (o:=HO.ins c.Draft dx fC) hxB
    replace r3:=r3.ins (o:=HO.ins c.Draft dx fC) hxB
    replace r4:=r4.ins (o:=HO.ins c.Draft dx fC) hxB
    replace B:=B.put (o:=HO.ins c.Draft dx fC)
    have hxD:upd HC x (HO.ins c.Draft dx fC) x=_:=upd_same
    generalize upd HC x (HO.ins c.Draft dx fC)=HD at B hxD r1 r2 r3 r4 ⊢
    subst ef
    walk_at "w"
    refine rd_tupOf (SqL.of (B _ _ h5 (ne_of h5 hx (by intro z;cases z)))) fun t5 ht5=> ?_
    walk_at "w"
    have r5:Rp (upd HD t5 (HO.tup (d.we.map V.str))) FT 1 (.ref t5) (dST d.we):=rp_ST upd_same (by have:=ok.p2;have:=ok.fl;omega)
    have sD:=same_new (o:=HO.tup (d.we.map V.str)) ht5
    replace B:=B.same sD
    replace r1:=r1.same sD
    replace r2:=r2.same sD
    replace r3:=r3.same sD
    replace r4:=r4.same sD
    replace hxD:=sD _ _ hxD
    generalize upd HD t5 (HO.tup (d.we.map V.str))=HE at B hxD r1 r2 r3 r4 r5 ⊢
    refine rd_set hxD T.kd_Draft.cl T.na_Draft_weft (by show 6<1000;decide) ?_
    generalize ef:putF "weft" (V.ref t5) _=fE
    replace r1:=r1.ins (o:=HO.ins c.Draft dx fE) hxD
    replace r2:=r2.ins (o:=HO.ins c.Draft dx fE) hxD
    replace r3:=r3.ins (o:=HO.ins c.Draft dx fE) hxD
    replace r4:=r4.ins (o:=HO.ins c.Draft dx fE) hxD
    replace r5:=r5.ins (o:=HO.ins c.Draft dx fE) hxD
    replace B:=B.put (o:=HO.ins c.Draft dx fE)
    have hxF:upd HD x (HO.ins c.Draft dx fE) x=_:=upd_same
    walk_at "w"
    subst ef
    exact k _ B ⟨dx,_,_,_,_,_,upd_same,r1,r2,r3,r4,r5⟩
theorem dr_make {c:Cs} {H:Hp} {Q:VK} {d:Dr} {ws:List V} (ps:Parts H d ws) (ok:DrOk d) (h:∀ H' x,Same H H'→H x=none→DrAt c.Draft H' x d→Q (.ref x) H'):
    ∀ x dx,H x=none→H dx=none→dx≠x→sp_Draft___init__ c (.ref x::ws) (upd (upd H dx (.own x)) x (.ins c.Draft dx [])) (fun v H2=>v= .non∧Q (.ref x) H2) E0:=by
  intro x dx hx hdx ne
  have s0:=same_obj (o:=HO.ins c.Draft dx []) (u:= .own x) hx hdx
  exact ⟨x,dx,ws,d,rfl,upd_same,ps.same s0,ok,fun H' B at'=>⟨rfl,h H' x (fun b o e=>B b o (s0 b o e) (ne_of_none e hx)) hx at'⟩⟩
noncomputable def dDr (d:Dr):Dt:= .tup [dN d.sh,dN d.tr,dL d.th,dLL d.ti,dLL d.td,dS d.wa,dS d.we]
end
end K31
open L2
namespace K31
open PySem L2 PySem.Spec PyProof.Rows
seal L2.PE L2.PT L2.PW L2.PA L2.PS L2.PSs L2.PI L2.PG L2.PTs L2.PGs
section
variable {P:Program} {w:World} {K:PySem.W.Frag} {mg:Str→Option Value} {base:Heap} {c:Cs}
noncomputable def sp_Draft_told (c:Cs):Sp:=fun vs H Q _=>∃ x d,vs=[.ref x]∧DrAt c.Draft H x d∧∀ H' p,Same H H'→H p=none→Rp H' (FN H) 3 (.ref p) (dDr d)→Q (.ref p) H'
noncomputable abbrev s_Draft_told:Stmt:=inClass (top 21) 1
theorem sc_Draft_told:FnScope ["self"] ["self"] (defScope s_Draft_told):=⟨rfl,rfl,rfl,by decide +kernel,rfl,by decide +kernel,by decide +kernel⟩
theorem ok_Draft_told {f:Addr} {fd:FuncData} (F:Fun K "told" "Draft.told" s_Draft_told f fd) (T:Txt K mg c):FnOk P w K mg base CX0 1 f fd ["self"] (sp_Draft_told c):=by
  refine F.ok sc_Draft_told (fun vs H Q E h=> ?_) (fun cdv A outer s H vs Q E hr h=> ?_)
  · obtain ⟨x,d,rfl,_⟩:=h
    rfl
  · obtain ⟨x,d,rfl,⟨dx,v1,v2,v3,v4,v5,h0,h1,h2,h3,h4,h5⟩,k⟩:=h
    obtain ⟨a1,rfl,e1,b1⟩:=dT_of h1
    obtain ⟨m2,a2,vs2,em2,rfl,e2,l2,b2,el2⟩:=tup_of h2
    cases em2
    obtain ⟨m3,a3,vs3,em3,rfl,e3,l3,b3,el3⟩:=tup_of h3
    cases em3
    obtain ⟨a4,rfl,e4,b4⟩:=dST_of h4
    obtain ⟨a5,rfl,e5,b5⟩:=dST_of h5
    rw [List.length_map] at l2 l3
    refine ⟨_,(pss_one (ps_ret (pe_tup (pa_cons (k_fld (K:=K) (pv 0) rfl) (pa_cons (k_fld (K:=K) (pv 0) rfl) (pa_cons (pe_callTy (k_list (K:=K)) rfl (T.own _ (by decide)) boot_list' (pa_cons (k_fld (K:=K) (pv 0) rfl) pa_nil)) (pa_cons (pe_comp1 (k_pit (K:=K) (k_fld (K:=K) (pv 0) rfl)) (fun _ _ _ _=>pts_nil) (fun _ _ _ _=>(pe_callTy (k_list (K:=K)) rfl (T.own _ (by decide)) boot_list' (pa_cons (pv 0) pa_nil)))) (pa_cons (pe_comp1 (k_pit (K:=K) (k_fld (K:=K) (pv 0) rfl)) (fun _ _ _ _=>pts_nil) (fun _ _ _ _=>(pe_callTy (k_list (K:=K)) rfl (T.own _ (by decide)) boot_list' (pa_cons (pv 0) pa_nil)))) (pa_cons (pe_callTy (k_list (K:=K)) rfl (T.own _ (by decide)) boot_list' (pa_cons (k_fld (K:=K) (pv 0) rfl) pa_nil)) (pa_cons (pe_callTy (k_list (K:=K)) rfl (T.own _ (by decide)) boot_list' (pa_cons (k_fld (K:=K) (pv 0) rfl) pa_nil)) pa_nil)))))))))),?_⟩
    walk_at "w"
    refine ⟨_,_,_,_,_,rfl,h0,T.kd_Draft.cl,T.na_Draft_shafts,rfl,?_⟩
    walk_at "w"
    refine ⟨_,_,_,_,_,rfl,h0,T.kd_Draft.cl,T.na_Draft_treadles,rfl,?_⟩
    walk_at "w"
    refine ⟨_,_,_,_,_,rfl,h0,T.kd_Draft.cl,T.na_Draft_threading,rfl,?_⟩
    walk_at "w"
    refine rd_listOfT (SqT.of e1) fun p1 hp1=> ?_
    walk_at "w"
    have s1:=same_new (o:=HO.lst (d.th.map nV)) hp1
    have r1:Rp (upd H p1 (HO.lst (d.th.map nV))) (FN H) 2 (.ref p1) (dL d.th):=rp_L upd_same hp1 b1
    generalize upd H p1 (HO.lst (d.th.map nV))=H1 at s1 r1 ⊢
    refine ⟨_,_,_,_,_,rfl,s1 _ _ h0,T.kd_Draft.cl,T.na_Draft_ties,rfl,?_⟩
    walk_at "w"
    refine ⟨a2,rfl,⟨_,SqT.of (s1 _ _ e2)⟩,fun D2 hD2=> ?_⟩
    refine comp_map (m:=1) (G:=fun i=>dL (d.ti.getD i [])) (src_tup (SqT.of (s1 _ _ e2)) rfl) hD2 b2 ?_ ?_
    · intro i H' R hi s kk
      have hi':i<d.ti.length:=by omega
      have r:=el2 i (by simpa using hi')
      rw [getD_map dT d.ti i .non [] hi'] at r
      obtain ⟨b,eb,hb3,hb4⟩:=dT_of r
      rw [eb]
      walk_at "w"
      exact rd_listOfT (SqT.of (s _ _ (s1 _ _ hb3))) fun q hq=>kk _ _ (same_new hq) (rp_L upd_same hq hb4)
    intro H2 ys2 s2 hl2 r2
    rw [l2,map_L] at r2
    replace r2:Rp H2 (FN H) 2 (.ref D2) (dLL d.ti):=r2.imp fun a ha=>s1.free ha
    have s02:=s1.trans s2
    walk_at "w"
    refine ⟨_,_,_,_,_,rfl,s02 _ _ h0,T.kd_Draft.cl,T.na_Draft_treading,rfl,?_⟩
    walk_at "w"
    refine ⟨a3,rfl,⟨_,SqT.of (s02 _ _ e3)⟩,fun D3 hD3=> ?_⟩
    refine comp_map (m:=1) (G:=fun i=>dL (d.td.getD i [])) (src_tup (SqT.of (s02 _ _ e3)) rfl) hD3 b3 ?_ ?_
    · intro i H' R hi s kk
      have hi':i<d.td.length:=by omega
      have r:=el3 i (by simpa using hi')
      rw [getD_map dT d.td i .non [] hi'] at r
      obtain ⟨b,eb,hb3,hb4⟩:=dT_of r
      rw [eb]
      walk_at "w"
      exact rd_listOfT (SqT.of (s _ _ (s02 _ _ hb3))) fun q hq=>kk _ _ (same_new hq) (rp_L upd_same hq hb4)
    intro H3 ys3 s3 hl3 r3
    rw [l3,map_L] at r3
    replace r3:Rp H3 (FN H) 2 (.ref D3) (dLL d.td):=r3.imp fun a ha=>s02.free ha
    have s03:=s02.trans s3
    walk_at "w"
    refine ⟨_,_,_,_,_,rfl,s03 _ _ h0,T.kd_Draft.cl,T.na_Draft_warp,rfl,?_⟩
    walk_at "w"
    refine rd_listOfT (SqT.of (s03 _ _ e4)) fun p4 hp4=> ?_
    walk_at "w"
    have s4:=same_new (o:=HO.lst (d.wa.map V.str)) hp4
    have r4:Rp (upd H3 p4 (HO.lst (d.wa.map V.str))) (FN H) 2 (.ref p4) (dS d.wa):=rp_S upd_same (s03.free hp4) b4
    generalize upd H3 p4 (HO.lst (d.wa.map V.str))=H4 at s4 r4 ⊢
    have s04:=s03.trans s4
    refine ⟨_,_,_,_,_,rfl,s04 _ _ h0,T.kd_Draft.cl,T.na_Draft_weft,rfl,?_⟩
    walk_at "w"
    refine rd_listOfT (SqT.of (s04 _ _ e5)) fun p5 hp5=> ?_
    walk_at "w"
    have s5:=same_new (o:=HO.lst (d.we.map V.str)) hp5
    have r5:Rp (upd H4 p5 (HO.lst (d.we.map V.str))) (FN H) 2 (.ref p5) (dS d.we):=rp_S upd_same (s04.free hp5) b5
    generalize upd H4 p5 (HO.lst (d.we.map V.str))=H5 at s5 r5 ⊢
    have s05:=s04.trans s5
    intro p hp
    have s6:=same_new (o:=HO.tup [nV d.sh,nV d.tr, .ref p1, .ref D2, .ref D3, .ref p4, .ref p5]) hp
    refine k _ p (s05.trans s6) (s05.free hp) (rp_tup7 upd_same (.int _) (.int _) ?_ ?_ ?_ ?_ ?_)
    · exact (r1.same (s2.trans (s3.trans (s4.trans s5)))).same s6
    · exact (r2.same (s3.trans (s4.trans s5))).same s6
    · exact (r3.same (s4.trans s5)).same s6
    · exact (r4.same s5).same s6
    · exact r5.same s6
noncomputable def sp_Draft_ends (c:Cs):Sp:=fun vs H Q _=>∃ x d,vs=[.ref x]∧DrAt c.Draft H x d∧Q (nV d.th.length) H
noncomputable abbrev s_Draft_ends:Stmt:=inClass (top 21) 2
theorem sc_Draft_ends:FnScope ["self"] ["self"] (defScope s_Draft_ends):=⟨rfl,rfl,rfl,by decide +kernel,rfl,by decide +kernel,by decide +kernel⟩
theorem ok_Draft_ends {f:Addr} {fd:FuncData} (F:Fun K "ends" "Draft.ends" s_Draft_ends f fd) (T:Txt K mg c):FnOk P w K mg base CX0 1 f fd ["self"] (sp_Draft_ends c):=by
  refine F.ok sc_Draft_ends (fun vs H Q E h=> ?_) (fun cdv A outer s H vs Q E hr h=> ?_)
  · obtain ⟨x,d,rfl,_⟩:=h
    rfl
  · obtain ⟨x,d,rfl,⟨dx,v1,v2,v3,v4,v5,h0,h1,h2,h3,h4,h5⟩,k⟩:=h
    obtain ⟨a1,rfl,e1,b1⟩:=dT_of h1
    refine ⟨_,(pss_one (ps_ret (pe_callB (k_len (K:=K)) rfl (T.own _ (by decide)) boot_len (pa_cons (k_fld (K:=K) (pv 0) rfl) pa_nil)))),?_⟩
    walk_at "w"
    refine ⟨_,_,_,_,_,rfl,h0,T.kd_Draft.cl,T.na_Draft_threading,rfl,?_⟩
    walk_at "w"
    refine rd_lenT (SqT.of e1) ?_
    rw [List.length_map]
    exact k
end
end K31
open L2
namespace K31
open PySem L2 PySem.Spec PyProof.Rows
seal L2.PE L2.PT L2.PW L2.PA L2.PS L2.PSs L2.PI L2.PG L2.PTs L2.PGs
section
variable {P:Program} {w:World} {K:PySem.W.Frag} {mg:Str→Option Value} {base:Heap} {c:Cs}
noncomputable def sp_lift_by (K:PySem.W.Frag):Sp:=fun vs H Q _=>∃ (a b:Addr) (tp:Bool) (ts ks:List Nat),vs=[.ref a, .ref b]∧SqL K H a (ts.map nV)∧SqS tp K H b (ks.map nV)∧ks.length≤1000∧(∀ k∈ks,1≤k∧k≤ts.length)∧∀ H',Same H H'→Q (nV (MM.uOf (ks.map fun k=>ts.getD (k - 1) 0))) H'
theorem nats_L {n:Nat} (G:Nat→Nat):((List.range n).map fun i=>((G i:Nat):Int)).map V.int=((List.range n).map G).map nV:=by rw [List.map_map,List.map_map];rfl
noncomputable abbrev s_lift_by:Stmt:=top 34
theorem sc_lift_by:FnScope ["ties","treadles"] ["ties","treadles"] (defScope s_lift_by):=⟨rfl,rfl,rfl,by decide +kernel,rfl,by decide +kernel,by decide +kernel⟩
theorem ok_lift_by {f:Addr} {fd:FuncData} (F:Fun K "lift_by" "lift_by" s_lift_by f fd) (T:Txt K mg c) (c_union_of:CallF P w K mg base "union_of" 1 ["masks"] (sp_union_of K)):FnOk P w K mg base CX0 2 f fd ["ties","treadles"] (sp_lift_by K):=by
  refine F.ok sc_lift_by (fun vs H Q E h=> ?_) (fun cdv A outer s H vs Q E hr h=> ?_)
  · obtain ⟨a,b,tp,ts,ks,rfl,_⟩:=h
    rfl
  · obtain ⟨a,b,tp,ts,ks,rfl,sa,sb,hl,hk,k⟩:=h
    refine ⟨_,(pss_one (ps_ret (pe_callF c_union_of hr (pa_cons (pe_comp1 (pi_sq (K:=K) (pv 1)) (fun _ _ _ _=>pts_nil) (fun _ _ _ _=>(pe_ix (k_ixl (K:=K)) (pv 1) (pe_op op_sub (pv 0) pe_int) (fun _ _=>rfl)))) pa_nil)))),?_⟩
    walk_at "w"
    refine ⟨tp,b,rfl,⟨_,sb⟩,fun D hD=> ?_⟩
    refine ints_comp (G:=fun i=>((ts.getD (ks.getD i 0 - 1) 0:Nat):Int)) (src_sq sb rfl) hD (by rw [List.length_map];omega) ?_ ?_
    · intro i H' R hi s kk
      have hi':i<ks.length:=by simpa using hi
      have hm:=hk _ (getD_mem (y:=0) hi')
      rw [getD_nat hi]
      walk_at "w"
      refine rd_ixL (SqS.same (tp:=false) sa s) (atI_natV (by omega) (by omega)) ?_
      rw [show (((ks.getD i 0:Nat):Int) - 1).toNat=ks.getD i 0 - 1 by omega]
      exact kk H' (Same.refl _)
    · intro H' s hl2
      rw [nats_L,List.length_map] at hl2
      walk_at "w"
      refine ⟨false,D,_,rfl,SqL.of hl2,fun H2 s2=> ?_⟩
      rw [range_map (fun k=>ts.getD (k - 1) 0) ks 0]
      exact k H2 (s.trans s2)
theorem Rise.le {m:Nat} {ns:List Nat} (h:Rise m ns):∀ n∈ns,1≤n∧n≤m:=fun n hn=>by
  obtain ⟨i,hi,rfl⟩:=List.getElem_of_mem hn
  have:=h i hi
  rw [show ns.getD i 0=ns[i] by simp [List.getD_eq_getElem?_getD,hi]] at this
  omega
theorem Rise.len {m:Nat}:∀ {ns:List Nat},Rise m ns→ns.length≤m:=by
  intro ns h
  have:∀ i,i<ns.length→i+1≤ns.getD i 0:=by
    intro i
    induction i with
    | zero=>intro hi;have:=h 0 hi;omega
    | succ i ih=>
      intro hi
      have h1:=ih (by omega)
      have h2:=h (i+1) hi
      have e:(0::ns).getD (i+1) 0=ns.getD i 0:=rfl
      omega
  rcases Nat.eq_zero_or_pos ns.length with z | z
  · omega
  · have h1:=this (ns.length - 1) (by omega)
    have h2:=h (ns.length - 1) (by omega)
    omega
noncomputable def thrN (th:List Nat) (s:Nat):Nat:=MM.ofB (fun e=>decide (th.getD e 0=s)) th.length
theorem mOf_pl (f:Nat→Bool) (w:Nat):MM.mOf (((List.range w).filter f).map (· + 1))=MM.ofB f w:=by
  refine Nat.eq_of_testBit_eq fun i=> ?_
  rw [MM.mOf_bit,MM.ofB_bit,Bool.eq_iff_iff,List.any_eq_true]
  constructor
  · rintro ⟨n,hn,e⟩
    obtain ⟨k,hk,rfl⟩:=List.mem_map.mp hn
    obtain ⟨h1,h2⟩:=List.mem_filter.mp hk
    have e:k+1 - 1=i:=of_decide_eq_true e
    have e:k=i:=by omega
    subst e
    simp [List.mem_range.mp h1,h2]
  · intro h
    simp only [Bool.and_eq_true,decide_eq_true_eq] at h
    exact ⟨i+1,List.mem_map.mpr ⟨i,List.mem_filter.mpr ⟨List.mem_range.mpr h.1,h.2⟩,rfl⟩,by simp⟩
noncomputable def sp_ends_through (K:PySem.W.Frag):Sp:=fun vs H Q _=>∃ (a:Addr) (tp:Bool) (th:List Nat) (s:Nat),vs=[.ref a,nV s]∧SqS tp K H a (th.map nV)∧th.length≤900∧∀ H',Same H H'→Q (nV (thrN th s)) H'
noncomputable abbrev s_ends_through:Stmt:=top 35
theorem sc_ends_through:FnScope ["threading","shaft"] ["threading","shaft"] (defScope s_ends_through):=⟨rfl,rfl,rfl,by decide +kernel,rfl,by decide +kernel,by decide +kernel⟩
theorem ok_ends_through {f:Addr} {fd:FuncData} (F:Fun K "ends_through" "ends_through" s_ends_through f fd) (T:Txt K mg c) (c_mask_of:CallF P w K mg base "mask_of" 2 ["numbers"] (sp_mask_of K)):FnOk P w K mg base CX0 3 f fd ["threading","shaft"] (sp_ends_through K):=by
  refine F.ok sc_ends_through (fun vs H Q E h=> ?_) (fun cdv A outer s H vs Q E hr h=> ?_)
  · obtain ⟨a,tp,th,s,rfl,_⟩:=h
    rfl
  · obtain ⟨a,tp,th,s,rfl,sa,hl,k⟩:=h
    refine ⟨_,(pss_one (ps_ret (pe_callF c_mask_of hr (pa_cons (pe_comp2 (K:=K) (pi_enumS (K:=K) rfl (T.own _ (by decide)) (pa_cons (pv 0) pa_nil)) (fun _ _ _ _=>(pts_one (pt_cmpR op_eq (pv 1) (pv 2) (nomark _)))) (fun _ _ _ _=>(pv 0))) pa_nil)))),?_⟩
    walk_at "w"
    refine ⟨tp,a,rfl,⟨_,sa⟩,fun D hD=> ?_⟩
    refine ints_compF (p:=fun i=>decide (th.getD i 0=s)) (G:=fun i=>((i+1:Nat):Int)) (src_enumS sa rfl rfl) hD (by rw [List.length_map];omega) ?_ ?_ ?_
    · intro i H' R hi s2 kk
      rw [getD_nat hi]
      walk_at "w"
      rw [show decide (((th.getD i 0:Nat):Int)=(s:Nat))=decide (th.getD i 0=s) by rw [Bool.eq_iff_iff];simp only [decide_eq_true_eq];omega]
      exact kk H' (Same.refl _)
    · intro i H' R hi hp s2 kk
      walk_at "w"
      exact kk H' (Same.refl _)
    · intro H' s2 hl2
      walk_at "w"
      have e:(((List.range (th.map nV).length).filter fun i=>decide (th.getD i 0=s)).map fun i=>((i+1:Nat):Int)).map V.int=(((List.range th.length).filter fun i=>decide (th.getD i 0=s)).map (· + 1)).map nV:=by
        rw [List.length_map,List.map_map,List.map_map]
        rfl
      rw [e] at hl2
      refine ⟨false,D,_,rfl,SqL.of hl2,fun n hn=> ?_,fun H3 s3=> ?_⟩
      · obtain ⟨j,hj,rfl⟩:=List.mem_map.mp hn
        have:=List.mem_range.mp (List.mem_filter.mp hj).1
        omega
      · rw [mOf_pl]
        exact k H3 (s2.trans s3)
noncomputable def sp_shaft_ends (K:PySem.W.Frag):Sp:=fun vs H Q _=>∃ (a:Addr) (tp:Bool) (th:List Nat) (s:Nat),vs=[.ref a,nV s]∧SqS tp K H a (th.map nV)∧th.length≤900∧s≤900∧∀ H' p,Same H H'→H p=none→H' p=some (.lst (((List.range s).map fun i=>thrN th (i+1)).map nV))→Q (.ref p) H'
noncomputable abbrev s_shaft_ends:Stmt:=top 36
theorem sc_shaft_ends:FnScope ["threading","shafts"] ["threading","shafts"] (defScope s_shaft_ends):=⟨rfl,rfl,rfl,by decide +kernel,rfl,by decide +kernel,by decide +kernel⟩
theorem ok_shaft_ends {f:Addr} {fd:FuncData} (F:Fun K "shaft_ends" "shaft_ends" s_shaft_ends f fd) (T:Txt K mg c) (c_ends_through:CallF P w K mg base "ends_through" 3 ["threading","shaft"] (sp_ends_through K)):FnOk P w K mg base CX0 4 f fd ["threading","shafts"] (sp_shaft_ends K):=by
  refine F.ok sc_shaft_ends (fun vs H Q E h=> ?_) (fun cdv A outer s H vs Q E hr h=> ?_)
  · obtain ⟨a,tp,th,s,rfl,_⟩:=h
    rfl
  · obtain ⟨a,tp,th,s,rfl,sa,hl,hs,k⟩:=h
    refine ⟨_,(pss_one (ps_ret (pe_comp1 (pi_range2 rfl (T.own _ (by decide)) (pa_cons pe_int (pa_cons (pe_op op_add (pv 1) pe_int) pa_nil))) (fun _ _ _ _=>pts_nil) (fun _ _ _ _=>(pe_callF c_ends_through hr (pa_cons (pv 1) (pa_cons (pv 0) pa_nil))))))),?_⟩
    walk_at "w"
    refine ⟨_,_,rfl,⟨by decide,by decide,by omega,by omega⟩,fun D hD=> ?_⟩
    rw [show ((s:Int)+1 - 1).toNat=s by omega]
    refine ints_comp (G:=fun i=>((thrN th (i+1):Nat):Int)) (src_range rfl) hD (by omega) ?_ ?_
    · intro i H' R hi s2 kk
      walk_at "w"
      refine ⟨a,tp,th,i+1,by rw [show (1:Int)+(i:Nat)=((i+1:Nat):Int) by omega],sa.same s2,hl,kk⟩
    · intro H' s2 hl2
      rw [nats_L] at hl2
      exact k H' D s2 hD hl2
noncomputable def rowN (cs:List Nat) (l:Nat):Nat:=MM.uOf ((MM.nOf l).map fun s=>cs.getD (s - 1) 0)
noncomputable def sp_row_by (K:PySem.W.Frag):Sp:=fun vs H Q _=>∃ (a:Addr) (cs:List Nat) (l:Nat),vs=[.ref a,nV l]∧SqL K H a (cs.map nV)∧l<2 ^ cs.length∧cs.length≤900∧∀ H',Same H H'→Q (nV (rowN cs l)) H'
noncomputable abbrev s_row_by:Stmt:=top 37
theorem sc_row_by:FnScope ["carried","lift"] ["carried","lift"] (defScope s_row_by):=⟨rfl,rfl,rfl,by decide +kernel,rfl,by decide +kernel,by decide +kernel⟩
theorem ok_row_by {f:Addr} {fd:FuncData} (F:Fun K "row_by" "row_by" s_row_by f fd) (T:Txt K mg c) (c_numbers_of:CallF P w K mg base "numbers_of" 3 ["mask"] sp_numbers_of) (c_union_of:CallF P w K mg base "union_of" 1 ["masks"] (sp_union_of K)):FnOk P w K mg base CX0 4 f fd ["carried","lift"] (sp_row_by K):=by
  refine F.ok sc_row_by (fun vs H Q E h=> ?_) (fun cdv A outer s H vs Q E hr h=> ?_)
  · obtain ⟨a,cs,l,rfl,_⟩:=h
    rfl
  · obtain ⟨a,cs,l,rfl,sa,hl,hc,k⟩:=h
    refine ⟨_,(pss_one (ps_ret (pe_callF c_union_of (hr.mono (by decide)) (pa_cons (pe_comp1 (k_pil (K:=K) (pe_callF c_numbers_of hr (pa_cons (pv 1) pa_nil))) (fun _ _ _ _=>pts_nil) (fun _ _ _ _=>(pe_ix (k_ixl (K:=K)) (pv 1) (pe_op op_sub (pv 0) pe_int) (fun _ _=>rfl)))) pa_nil)))),?_⟩
    walk_at "w"
    refine ⟨l,rfl,Nat.lt_of_lt_of_le hl (Nat.pow_le_pow_right (Nat.zero_lt_two) hc),fun H1 p s1 hp h1=> ?_⟩
    walk_at "w"
    refine ⟨p,rfl,⟨_,SqL.of h1⟩,fun D hD=> ?_⟩
    have hn:=MM.nOf_len hl
    refine ints_comp (G:=fun i=>((cs.getD ((MM.nOf l).getD i 0 - 1) 0:Nat):Int)) (src_list (SqL.of h1) rfl) hD (by rw [List.length_map];omega) ?_ ?_
    · intro i H' R hi s kk
      have hi':i<(MM.nOf l).length:=by simpa using hi
      obtain ⟨m1,m2⟩:=(MM.nOf_mem l _).mp (getD_mem (y:=0) hi')
      have m3:(MM.nOf l).getD i 0 - 1<cs.length:=by
        rcases Nat.lt_or_ge ((MM.nOf l).getD i 0 - 1) cs.length with z | z
        · exact z
        · rw [Nat.testBit_lt_two_pow (Nat.lt_of_lt_of_le hl (Nat.pow_le_pow_right (by decide) z))] at m2
          cases m2
      rw [getD_nat hi]
      walk_at "w"
      refine rd_ixL (SqS.same (tp:=false) (SqS.same (tp:=false) sa s1) s) (atI_natV (by omega) (by omega)) ?_
      rw [show ((((MM.nOf l).getD i 0:Nat):Int) - 1).toNat=(MM.nOf l).getD i 0 - 1 by omega]
      exact kk H' (Same.refl _)
    · intro H' s hl2
      rw [nats_L,List.length_map] at hl2
      walk_at "w"
      refine ⟨false,D,_,rfl,SqL.of hl2,fun H2 s2=> ?_⟩
      rw [range_map (fun s=>cs.getD (s - 1) 0) (MM.nOf l) 0]
      exact k H2 (s1.trans (s.trans s2))
end
end K31
open L2
namespace K31
open PySem L2 PySem.Spec PyProof.Rows
seal L2.PE L2.PT L2.PW L2.PA L2.PS L2.PSs L2.PI L2.PG L2.PTs L2.PGs
section
variable {P:Program} {w:World} {K:PySem.W.Frag} {mg:Str→Option Value} {base:Heap} {c:Cs}
noncomputable def mixV (x k:Int):Int:=(x%1000000007+7919*k+13)*(x%1000000007+7919*k+13)%1000000007*48271%2147483647
noncomputable def sp__law_mixed:Sp:=fun vs H Q _=>∃ x k:Int,vs=[.int x, .int k]∧(0≤k∧k≤1000)∧Q (.int (mixV x k)) H
noncomputable abbrev s__law_mixed:Stmt:=top 56
theorem sc__law_mixed:FnScope ["_law_cell","_law_k"] ["_law_cell","_law_k"] (defScope s__law_mixed):=⟨rfl,rfl,rfl,by decide +kernel,rfl,by decide +kernel,by decide +kernel⟩
theorem ok__law_mixed {f:Addr} {fd:FuncData} (F:Fun K "_law_mixed" "_law_mixed" s__law_mixed f fd) (T:Txt K mg c):FnOk P w K mg base CX0 1 f fd ["_law_cell","_law_k"] sp__law_mixed:=by
  refine F.ok sc__law_mixed (fun vs H Q E h=> ?_) (fun cdv A outer s H vs Q E hr h=> ?_)
  · obtain ⟨x,k,rfl,_⟩:=h
    rfl
  · obtain ⟨x,k,rfl,hk,q⟩:=h
    refine ⟨_,(pss_cons (ps_set (i:=0) sc__law_mixed.nd rfl (Or.inl rfl) (pe_op op_add (pe_op op_add (pe_op op_mod (pv 0) pe_int) (pe_op op_mul pe_int (pv 1))) pe_int))
      (pss_one (ps_ret (pe_op op_mod (pe_op op_mul (pe_op op_mod (pe_op op_mul (pv 0) (pv 0)) pe_int) pe_int) pe_int)))),?_⟩
    have b1:=Int.emod_nonneg x (show (1000000007:Int)≠0 by decide)
    have b2:=Int.emod_lt_of_pos x (show (0:Int)<1000000007 by decide)
    walk_at "w"
    refine rd_rI (by decide) ?_
    walk_at "w"
    refine rd_rI (.inl ⟨by decide,by decide⟩) ?_
    walk_at "w"
    refine rd_rI (.inl ⟨?_,?_⟩) ?_
    · show -(2 ^ 64)<x%1000000007+7919*k+13
      omega
    · show x%1000000007+7919*k+13<2 ^ 64
      omega
    walk_at "w"
    refine rd_rI (by decide) ?_
    walk_at "w"
    refine rd_rI (.inr ⟨by decide,by decide⟩) ?_
    walk_at "w"
    refine rd_rI (by decide) ?_
    exact q
noncomputable def sp__law_cells (K:PySem.W.Frag):Sp:=fun vs H Q _=>∃ (a:Addr) (ns:List Int) (f:Int),vs=[.ref a, .int f]∧SqL K H a (ns.map V.int)∧ns.length≤63∧0≤f∧f≤1∧∀ H' p (ms:List Int),Same H H'→H p=none→H' p=some (.lst (ms.map V.int))→1≤ms.length→ms.length≤60∧ms.length≤ns.length+1→Q (.ref p) H'
theorem rs_two {f:Int} {n:Nat} {i:Nat} (f0:0≤f) (h:i<(Builtin.Range.rangeSize f (n:Nat) 2).toNat):f+i*2<n:=by
  unfold Builtin.Range.rangeSize at h
  rw [if_pos (by decide)] at h
  split at h
  · omega
  · simp at h
noncomputable abbrev s__law_cells:Stmt:=top 57
theorem sc__law_cells:FnScope ["_law_script","_law_first","_law_found"] ["_law_script","_law_first"] (defScope s__law_cells):=⟨rfl,rfl,rfl,by decide +kernel,rfl,by decide +kernel,by decide +kernel⟩
theorem ok__law_cells {f:Addr} {fd:FuncData} (F:Fun K "_law_cells" "_law_cells" s__law_cells f fd) (T:Txt K mg c):FnOk P w K mg base CX0 1 f fd ["_law_script","_law_first"] (sp__law_cells K):=by
  refine F.ok sc__law_cells (fun vs H Q E h=> ?_) (fun cdv A outer s H vs Q E hr h=> ?_)
  · obtain ⟨a,ns,f,rfl,_⟩:=h
    rfl
  · obtain ⟨a,ns,f,rfl,sa,hn,f0,f1,k⟩:=h
    have hu:=hr.units0
    refine ⟨_,(pss_cons (ps_set (i:=2) sc__law_cells.nd rfl (Or.inl rfl) (pe_slice (k_sll (K:=K)) (pe_comp1 (pi_range3 rfl (T.own _ (by decide)) (pa_cons (pv 1) (pa_cons (pe_callB (k_len (K:=K)) rfl (T.own _ (by decide)) boot_len (pa_cons (pv 0) pa_nil)) (pa_cons pe_int pa_nil)))) (fun _ _ _ _=>pts_nil) (fun _ _ _ _=>(pe_ix (k_ixl (K:=K)) (pv 1) (pv 0) (fun _ _=>rfl)))) po_none (po_some pe_int)))
      (pss_one (ps_ret (pe_op (k_cat (K:=K)) (pv 2) (pe_op op_rep (pe_lst (pa_cons (pv 1) pa_nil)) (pe_callTy k_intB rfl (T.own _ (by decide)) boot_int (pa_cons (pe_cmpR (k_eql hu (K:=K)) (pv 2) (pe_lst pa_nil) (nomark _)) pa_nil))))))),?_⟩
    walk_at "w"
    refine rd_lenL sa ?_
    walk_at "w"
    refine ⟨_,_,_,rfl,⟨by omega,by omega⟩,⟨by omega,by rw [List.length_map];omega⟩,⟨by decide,by decide⟩,by decide,fun D hD=> ?_⟩
    rw [List.length_map]
    have hb:∀ i:Nat,i<(Builtin.Range.rangeSize f (ns.length:Nat) 2).toNat→f+i*2<ns.length:=fun i hi=>rs_two f0 hi
    have hsz:(Builtin.Range.rangeSize f (ns.length:Nat) 2).toNat≤63:=by
      have:=rs_le f (ns.length:Nat) 2 (by decide)
      omega
    generalize (Builtin.Range.rangeSize f (ns.length:Nat) 2).toNat=n at hb hsz ⊢
    refine ints_comp (G:=fun i=>ns.getD (f+i*2).toNat 0) (src_rangeC rfl) hD (by omega) ?_ ?_
    · intro i H' R hi s kk
      have:=hb i hi
      walk_at "w"
      refine rd_ixL (SqS.same (tp:=false) sa s) (atI_int (by omega) (by omega)) ?_
      exact kk H' (Same.refl _)
    intro H1 s1 hl1
    have hn1:n≤ns.length:=by
      rcases Nat.eq_zero_or_pos n with z | z
      · omega
      · have:=hb (n - 1) (by omega)
        omega
    have lms:((List.range n).map fun i:Nat=>ns.getD (f+i*2).toNat 0).length≤ns.length:=by simpa using hn1
    generalize (List.range n).map (fun i:Nat=>ns.getD (f+i*2).toNat 0)=ms at hl1 lms
    walk_at "w"
    refine rd_slL (SqL.of hl1) fun q hq=> ?_
    rw [cut_to (by decide), ← List.map_take]
    have s2:=same_new (o:=HO.lst ((ms.take (60:Int).toNat).map V.int)) hq
    have h2:upd H1 q (HO.lst ((ms.take (60:Int).toNat).map V.int)) q=_:=upd_same
    have s12:=s1.trans s2
    generalize upd H1 q (HO.lst ((ms.take (60:Int).toNat).map V.int))=H2 at s12 h2 ⊢
    have hms:(ms.take (60:Int).toNat).length≤60∧(ms.take (60:Int).toNat).length≤ns.length:=by rw [List.length_take];exact ⟨Nat.min_le_left _ _,Nat.le_trans (Nat.min_le_right _ _) lms⟩
    generalize ms.take (60:Int).toNat=ts at h2 hms ⊢
    walk_at "w"
    intro p hp
    walk_at "w"
    have s3:=same_new (o:=HO.lst [V.int f]) hp
    have h3:upd H2 p (HO.lst [V.int f]) p=some (.lst [V.int f]):=upd_same
    have s13:=s12.trans s3
    replace h2:=s3 _ _ h2
    generalize upd H2 p (HO.lst [V.int f])=H3 at s13 h2 h3 ⊢
    intro p4 hp4
    walk_at "w"
    have s4:=same_new (o:=HO.lst []) hp4
    have s14:=s13.trans s4
    replace h2:=s4 _ _ h2
    replace h3:=s4 _ _ h3
    have h4:upd H3 p4 (HO.lst []) p4=_:=upd_same
    generalize upd H3 p4 (HO.lst [])=H4 at s14 h2 h3 h4 ⊢
    refine rd_eqLI (bs:=[]) (SqL.of h2) (SqL.of h4) ?_
    walk_at "w"
    refine ⟨_,rfl,?_⟩
    have hb2:(0:Int)≤(if decide (ts=[])=true then 1 else 0)∧(if decide (ts=[])=true then (1:Int) else 0)≤1:=by split <;> decide
    refine rd_rep h3 hb2.1 (by omega) (by simp) fun p5 hp5=> ?_
    walk_at "w"
    have e5:(List.replicate (if decide (ts=[])=true then (1:Int) else 0).toNat [V.int f]).flatten=(if ts=[] then [f] else []).map V.int:=by
      by_cases z:ts=[]
      · simp [z]
      · simp [z]
    rw [e5]
    have s5:=same_new (o:=HO.lst ((if ts=[] then [f] else []).map V.int)) hp5
    have h5:upd H4 p5 (HO.lst ((if ts=[] then [f] else []).map V.int)) p5=_:=upd_same
    replace h2:=s5 _ _ h2
    have s15:=s14.trans s5
    generalize upd H4 p5 (HO.lst ((if ts=[] then [f] else []).map V.int))=H5 at s15 h2 h5 ⊢
    have hlen:1≤(ts++(if ts=[] then [f] else [])).length∧(ts++(if ts=[] then [f] else [])).length≤60∧(ts++(if ts=[] then [f] else [])).length≤ns.length+1:=by
      by_cases z:ts=[]
      · simp [z]
      · have:1≤ts.length:=by
          cases ts with
          | nil=>exact absurd rfl z
          | cons _ _=>simp
        simp [z]
        omega
    refine rd_cat (SqL.of h2) (SqL.of h5) (by have:=hlen.2.1;rw [List.length_append] at this;simp only [List.length_map];omega) fun p6 hp6=> ?_
    rw [← List.map_append]
    exact k _ p6 _ (s15.trans (same_new hp6)) (s15.free hp6) upd_same hlen.1 hlen.2
noncomputable def numsM (m w:Nat):List Nat:=((List.range w).filter m.testBit).map (· + 1)
theorem rise_filter (p:Nat→Bool):∀ w,Rise w (((List.range w).filter p).map (· + 1)):=by
  intro w
  have key:∀ w,(∀ n∈((List.range w).filter p).map (· + 1),1≤n∧n≤w)∧(((List.range w).filter p).map (· + 1)).Pairwise (· < ·):=by
    intro w
    refine ⟨fun n hn=> ?_,?_⟩
    · obtain ⟨k,hk,rfl⟩:=List.mem_map.mp hn
      have:=List.mem_range.mp (List.mem_filter.mp hk).1
      omega
    · rw [List.pairwise_map]
      exact ((List.pairwise_lt_range).filter p).imp (fun h=>Nat.succ_lt_succ h)
  obtain ⟨k1,k2⟩:=key w
  generalize ((List.range w).filter p).map (· + 1)=ns at k1 k2
  intro i hi
  have e:ns.getD i 0=ns[i]:=by simp [List.getD_eq_getElem?_getD,hi]
  have m1:=k1 _ (List.getElem_mem hi)
  rw [e]
  refine ⟨?_,m1.2⟩
  cases i with
  | zero=>simpa using m1.1
  | succ i=>
    have e2:(0::ns).getD (i+1) 0=ns[i]:=by
      show ns.getD i 0=ns[i]
      simp [List.getD_eq_getElem?_getD,(show i<ns.length by omega)]
    rw [e2]
    exact (List.pairwise_iff_getElem.mp k2) i (i+1) (by omega) hi (by omega)
noncomputable def sp__law_numbers:Sp:=fun vs H Q _=>∃ m w:Nat,vs=[nV m,nV w]∧w≤100∧∀ H' p,Same H H'→H p=none→H' p=some (.lst ((numsM m w).map nV))→Q (.ref p) H'
theorem shr_bit (m i:Nat):decide ((((m >>> i) &&& 1:Nat):Int)=1)=m.testBit i:=by
  have h:((m >>> i) &&& 1)=(m.testBit i).toNat:=by
    rw [Nat.and_one_is_mod,Nat.shiftRight_eq_div_pow,MM.bit_div]
  rw [h]
  cases m.testBit i <;> rfl
noncomputable abbrev s__law_numbers:Stmt:=top 58
theorem sc__law_numbers:FnScope ["_law_mask","_law_most"] ["_law_mask","_law_most"] (defScope s__law_numbers):=⟨rfl,rfl,rfl,by decide +kernel,rfl,by decide +kernel,by decide +kernel⟩
theorem ok__law_numbers {f:Addr} {fd:FuncData} (F:Fun K "_law_numbers" "_law_numbers" s__law_numbers f fd) (T:Txt K mg c):FnOk P w K mg base CX0 1 f fd ["_law_mask","_law_most"] sp__law_numbers:=by
  refine F.ok sc__law_numbers (fun vs H Q E h=> ?_) (fun cdv A outer s H vs Q E hr h=> ?_)
  · obtain ⟨m,w,rfl,_⟩:=h
    rfl
  · obtain ⟨m,w,rfl,hw,k⟩:=h
    refine ⟨_,(pss_one (ps_ret (pe_comp1 (pi_range1 rfl (T.own _ (by decide)) (pa_cons (pv 1) pa_nil)) (fun _ _ _ _=>(pts_one (pt_cmpR op_eq (pe_op op_and (pe_op op_shr (pv 1) (pv 0)) pe_int) pe_int (nomark _)))) (fun _ _ _ _=>(pe_op op_add (pv 0) pe_int))))),?_⟩
    walk_at "w"
    refine ⟨_,rfl,by omega,by omega,fun D hD=> ?_⟩
    rw [Int.toNat_natCast]
    refine ints_compF (p:=m.testBit) (G:=fun i=>(i:Int)+1) (src_range0 rfl) hD (by omega) ?_ ?_ ?_
    · intro i H' R hi s kk
      walk_at "w"
      refine rd_rI (by show (0:Int)≤_;omega) ?_
      walk_at "w"
      have e:((m:Nat):Int) / 2 ^ (((i:Nat):Int)).toNat=((m >>> i:Nat):Int):=by
        rw [Int.toNat_natCast,Nat.shiftRight_eq_div_pow]
        push_cast
        rfl
      rw [e,show (1:Int)=((1:Nat):Int) from rfl,bA]
      walk_at "w"
      rw [show (((1:Nat):Int))=(1:Int) from rfl,shr_bit]
      exact kk H' (Same.refl _)
    · intro i H' R hi hp s kk
      walk_at "w"
      exact kk H' (Same.refl _)
    · intro H' s hl
      refine k H' D s hD ?_
      rw [hl]
      unfold numsM
      rw [List.map_map,List.map_map]
      rfl
end
end K31
open L2
namespace K31
open PySem L2 PySem.Spec PyProof.Rows
seal L2.PE L2.PT L2.PW L2.PA L2.PS L2.PSs L2.PI L2.PG L2.PTs L2.PGs
section
variable {P:Program} {w:World} {K:PySem.W.Frag} {mg:Str→Option Value} {base:Heap} {c:Cs}
noncomputable abbrev letS (i:Int):Str:=⟨#[97+i.toNat]⟩
theorem let_at:∀ j:Nat,j<26→("abcdefghijklmnopqrstuvwxyz":Str).cps.toList[j]?=some (97+j):=by decide +kernel
theorem let_atI {i:Int} (h0:0≤i) (h1:i<26):atI ("abcdefghijklmnopqrstuvwxyz":Str).cps.toList i=some (97+i.toNat):=by
  obtain ⟨j,rfl⟩:∃ j:Nat,i=j:=⟨i.toNat,by omega⟩
  rw [Int.toNat_natCast]
  exact atI_nat (let_at j (by omega))
theorem let_col:∀ j:Nat,j<26→((⟨#[97+j]⟩:Str).length == 1&& !(Builtin.Str.occurrences colS ⟨#[97+j]⟩ 0 colS.length 1).isEmpty)=true:=by decide +kernel
theorem let_ok {i:Int} (h0:0≤i) (h1:i<26):colOk (letS i):=by
  have h:=let_col i.toNat (by omega)
  simp only [Bool.and_eq_true,beq_iff_eq] at h
  exact ⟨h.1,h.2⟩
theorem pow_pos' (s:Nat):(0:Int)<1*2 ^ ((s:Nat):Int).toNat:=by
  rw [Int.toNat_natCast,pow_cast]
  have:=Nat.two_pow_pos s
  omega
theorem mod_nat (x:Int) (s:Nat):x%(1*2 ^ ((s:Nat):Int).toNat)=(((x%(2 ^ s:Nat)).toNat:Nat):Int):=by
  rw [Int.toNat_natCast,pow_cast]
  have hp:=Nat.two_pow_pos s
  have:=Int.emod_nonneg x (show ((2 ^ s:Nat):Int)≠0 by omega)
  omega
noncomputable def sp__law_draft (K:PySem.W.Frag):Sp:=fun vs H Q _=>∃ (a:Addr) (ns:List Int) (m:Nat),vs=[.ref a,nV m]∧SqL K H a (ns.map V.int)∧ns.length≤63∧1≤m∧m≤16∧∀ H' p d,Same H H'→H p=none→Rp H' (FN H) 3 (.ref p) (dDr d)→DrOk d→d.th.length≤ns.length+1→d.td.length≤ns.length+1→Q (.ref p) H'
noncomputable abbrev s__law_draft:Stmt:=top 59
theorem sc__law_draft:FnScope ["_law_script","_law_most","_law_whole_here","_law_shafts","_law_treadles","_law_letters","_law_ends","_law_picks","_law_ties","_law_treading","_law_warp","_law_weft"] ["_law_script","_law_most"] (defScope s__law_draft):=⟨rfl,rfl,rfl,by decide +kernel,rfl,by decide +kernel,by decide +kernel⟩
theorem ok__law_draft {f:Addr} {fd:FuncData} (F:Fun K "_law_draft" "_law_draft" s__law_draft f fd) (T:Txt K mg c) (c__law_mixed:CallF P w K mg base "_law_mixed" 1 ["_law_cell","_law_k"] sp__law_mixed) (c__law_cells:CallF P w K mg base "_law_cells" 1 ["_law_script","_law_first"] (sp__law_cells K)) (c__law_numbers:CallF P w K mg base "_law_numbers" 1 ["_law_mask","_law_most"] sp__law_numbers):FnOk P w K mg base CX0 2 f fd ["_law_script","_law_most"] (sp__law_draft K):=by
  refine F.ok sc__law_draft (fun vs H Q E h=> ?_) (fun cdv A outer s H vs Q E hr h=> ?_)
  · obtain ⟨a,ns,m,rfl,_⟩:=h
    rfl
  · obtain ⟨a,ns,m,rfl,sa,hn,m1,m2,k⟩:=h
    refine ⟨_,(pss_cons (ps_set (i:=2) sc__law_draft.nd rfl (Or.inr rfl) (pe_callB (k_sum (K:=K)) rfl (T.own _ (by decide)) boot_sum (pa_cons (pe_comp2 (K:=K) (pi_enum (K:=K) rfl (T.own _ (by decide)) (pa_cons (pv 0) pa_nil)) (fun _ _ _ _=>pts_nil) (fun _ _ _ _=>(pe_op op_mul (pe_op op_mod (pv 1) pe_int) (pe_op op_add (pv 0) pe_int)))) pa_nil)))
      (pss_cons (ps_set (i:=3) sc__law_draft.nd rfl (Or.inr rfl) (pe_op op_add pe_int (pe_op op_mod (pe_callF c__law_mixed hr (pa_cons (pv 2) (pa_cons pe_int pa_nil))) (pv 1))))
      (pss_cons (ps_set (i:=4) sc__law_draft.nd rfl (Or.inr rfl) (pe_op op_add pe_int (pe_op op_mod (pe_callF c__law_mixed hr (pa_cons (pv 2) (pa_cons pe_int pa_nil))) (pv 1))))
      (pss_cons (ps_set (i:=5) sc__law_draft.nd rfl (Or.inr rfl) pe_str)
      (pss_cons (ps_set (i:=6) sc__law_draft.nd rfl (Or.inl rfl) (pe_callF c__law_cells hr (pa_cons (pv 0) (pa_cons pe_int pa_nil))))
      (pss_cons (ps_set (i:=7) sc__law_draft.nd rfl (Or.inl rfl) (pe_callF c__law_cells hr (pa_cons (pv 0) (pa_cons pe_int pa_nil))))
      (pss_cons (ps_comp1 (i:=8) sc__law_draft.nd rfl (Or.inl rfl) (pi_range1 rfl (T.own _ (by decide)) (pa_cons (pv 4) pa_nil)) (fun _ _ _ _=>pts_nil) (fun _ _ _ _=>(pe_callF c__law_numbers hr (pa_cons (pe_op op_mod (pe_callF c__law_mixed hr (pa_cons (pv 2) (pa_cons (pe_op op_add pe_int (pv 0)) pa_nil))) (pe_op op_shl pe_int (pv 1))) (pa_cons (pv 1) pa_nil)))))
      (pss_cons (ps_comp1 (i:=9) sc__law_draft.nd rfl (Or.inl rfl) (k_pil (K:=K) (pv 7)) (fun _ _ _ _=>pts_nil) (fun _ _ _ _=>(pe_callF c__law_numbers hr (pa_cons (pe_op op_mod (pv 0) (pe_op op_shl pe_int (pv 1))) (pa_cons (pv 1) pa_nil)))))
      (pss_cons (ps_if (pt_cmpR op_eq (pe_op op_mod (pe_callF c__law_mixed hr (pa_cons (pv 2) (pa_cons pe_int pa_nil))) pe_int) pe_int (nomark _)) (pss_one (ps_comp1 (i:=9) sc__law_draft.nd rfl (Or.inl rfl) (k_pil (K:=K) (pv 7)) (fun _ _ _ _=>pts_nil) (fun _ _ _ _=>(pe_lst (pa_cons (pe_op op_add pe_int (pe_op op_mod (pv 0) (pv 1))) pa_nil))))) pss_nil)
      (pss_cons (ps_comp1 (i:=10) sc__law_draft.nd rfl (Or.inl rfl) (k_pil (K:=K) (pv 6)) (fun _ _ _ _=>pts_nil) (fun _ _ _ _=>(pe_ix ix_str (pv 1) (pe_op op_mod (pe_op op_fdivL (pv 0) pe_int) (pe_op op_add pe_int (pe_op op_mod (pe_callF c__law_mixed hr (pa_cons (pv 2) (pa_cons pe_int pa_nil))) pe_int))) (fun _ _=>rfl))))
      (pss_cons (ps_comp1 (i:=11) sc__law_draft.nd rfl (Or.inl rfl) (k_pil (K:=K) (pv 7)) (fun _ _ _ _=>pts_nil) (fun _ _ _ _=>(pe_ix ix_str (pv 1) (pe_op op_mod (pe_op op_fdivL (pv 0) pe_int) (pe_op op_add pe_int (pe_op op_mod (pe_callF c__law_mixed hr (pa_cons (pv 2) (pa_cons pe_int pa_nil))) pe_int))) (fun _ _=>rfl))))
      (pss_one (ps_ret (pe_tup (pa_cons (pv 3) (pa_cons (pv 4) (pa_cons (pe_comp1 (k_pil (K:=K) (pv 6)) (fun _ _ _ _=>pts_nil) (fun _ _ _ _=>(pe_op op_mod (pv 0) (pe_op op_add (pv 1) pe_int)))) (pa_cons (pv 8) (pa_cons (pv 9) (pa_cons (pv 10) (pa_cons (pv 11) pa_nil))))))))))))))))))))),?_⟩
    walk_at "w"
    refine ⟨a,rfl,⟨_,sa⟩,fun D0 hD0=> ?_⟩
    refine ints_comp (G:=fun i=>ns.getD i 0%1000000007*((i:Int)+1)) (src_enum sa rfl rfl) hD0 (by rw [List.length_map];omega) ?_ ?_
    · intro i H' R hi s kk
      have b1:=Int.emod_nonneg (ns.getD i 0) (show (1000000007:Int)≠0 by decide)
      have b2:=Int.emod_lt_of_pos (ns.getD i 0) (show (0:Int)<1000000007 by decide)
      rw [getD_int hi]
      walk_at "w"
      refine rd_rI (by decide) ?_
      walk_at "w"
      refine rd_rI (.inl ⟨by omega,by omega⟩) ?_
      exact kk H' (Same.refl _)
    intro H1 s1 hl1
    walk_at "w"
    refine rd_sum (SqL.of hl1) ?_
    generalize ((List.range (ns.map V.int).length).map fun i:Nat=>ns.getD i 0%1000000007*((i:Int)+1)).sum=W
    walk_at "w"
    refine ⟨W,1,rfl,⟨by decide,by decide⟩,?_⟩
    walk_at "w"
    refine rd_rI (by show (0:Int)<(m:Nat);omega) ?_
    walk_at "w"
    obtain ⟨sN,es,sN1,sN2⟩:∃ s:Nat,1+mixV W 1%(m:Nat)=(s:Nat)∧1≤s∧s≤16:=by
      have h0:=Int.emod_nonneg (mixV W 1) (show ((m:Nat):Int)≠0 by omega)
      have h1:=Int.emod_lt_of_pos (mixV W 1) (show (0:Int)<(m:Nat) by omega)
      exact ⟨(1+mixV W 1%(m:Nat)).toNat,by omega,by omega,by omega⟩
    rw [es]
    refine ⟨W,2,rfl,⟨by decide,by decide⟩,?_⟩
    walk_at "w"
    refine rd_rI (by show (0:Int)<(m:Nat);omega) ?_
    walk_at "w"
    obtain ⟨tN,et,tN1,tN2⟩:∃ s:Nat,1+mixV W 2%(m:Nat)=(s:Nat)∧1≤s∧s≤16:=by
      have h0:=Int.emod_nonneg (mixV W 2) (show ((m:Nat):Int)≠0 by omega)
      have h1:=Int.emod_lt_of_pos (mixV W 2) (show (0:Int)<(m:Nat) by omega)
      exact ⟨(1+mixV W 2%(m:Nat)).toNat,by omega,by omega,by omega⟩
    rw [et]
    refine ⟨a,ns,0,rfl,s1.seq sa,hn,by decide,by decide,fun H2 pE eE s2 hpE hE lE1 lE2=> ?_⟩
    walk_at "w"
    have s02:=s1.trans s2
    refine ⟨a,ns,1,rfl,s02.seq sa,hn,by decide,by decide,fun H3 pP eP s3 hpP hP lP1 lP2=> ?_⟩
    walk_at "w"
    have s03:=s02.trans s3
    replace hE:=s3 _ _ hE
    refine ⟨_,rfl,by omega,by omega,fun D4 hD4=> ?_⟩
    rw [Int.toNat_natCast]
    refine comp_map (m:=1) (G:=fun i=>dL (numsM (mixV W (3+(i:Int))%(2 ^ sN:Nat)).toNat sN)) (src_range0 rfl) hD4 (by omega) ?_ ?_
    · intro i H' R hi s kk
      walk_at "w"
      refine ⟨W,_,rfl,⟨by omega,by omega⟩,?_⟩
      walk_at "w"
      refine rd_rI ⟨by omega,by omega,by decide⟩ ?_
      walk_at "w"
      refine rd_rI (pow_pos' sN) ?_
      walk_at "w"
      rw [mod_nat]
      exact ⟨_,sN,rfl,by omega,fun H4 p4 s4 hp4 h4=>kk H4 _ s4 (rp_L h4 hp4 (by unfold numsM;rw [List.length_map];exact Nat.le_trans (List.length_filter_le _ _) (by simp;omega)))⟩
    intro H4 ys4 s4 hl4 r4
    rw [dLL_map] at r4
    have s04:=s03.trans s4
    replace r4:Rp H4 (FN H) 2 (.ref D4) _:=r4.imp fun a ha=>s03.free ha
    replace hE:=s4 _ _ hE
    replace hP:=s4 _ _ hP
    generalize eTI:((List.range tN).map fun i:Nat=>numsM (mixV W (3+(i:Int))%(2 ^ sN:Nat)).toNat sN)=TI at r4
    have lTI:TI.length=tN:=by rw [← eTI];simp
    have rTI:∀ l∈TI,Rise sN l:=fun l hl=>by
      rw [← eTI] at hl
      obtain ⟨i,_,rfl⟩:=List.mem_map.mp hl
      exact rise_filter _ sN
    walk_at "w"
    refine ⟨pP,rfl,⟨_,SqL.of hP⟩,fun D5 hD5=> ?_⟩
    refine comp_map (m:=1) (G:=fun i=>dL (numsM (eP.getD i 0%(2 ^ tN:Nat)).toNat tN)) (src_list (SqL.of hP) rfl) hD5 (by rw [List.length_map];omega) ?_ ?_
    · intro i H' R hi s kk
      rw [getD_int hi]
      walk_at "w"
      refine rd_rI ⟨by omega,by omega,by decide⟩ ?_
      walk_at "w"
      refine rd_rI (pow_pos' tN) ?_
      walk_at "w"
      rw [mod_nat]
      exact ⟨_,tN,rfl,by omega,fun H4 p4 s4 hp4 h4=>kk H4 _ s4 (rp_L h4 hp4 (by unfold numsM;rw [List.length_map];exact Nat.le_trans (List.length_filter_le _ _) (by simp;omega)))⟩
    intro H5 ys5 s5 hl5 r5
    rw [List.length_map,dLL_map] at r5
    have s05:=s04.trans s5
    replace r5:Rp H5 (FN H) 2 (.ref D5) _:=r5.imp fun a ha=>s04.free ha
    replace r4:=r4.same s5
    replace hE:=s5 _ _ hE
    replace hP:=s5 _ _ hP
    walk_at "v"
    refine ifJ (fun σ' H6=>∃ v9 TD,σ'=[some (.ref a),some (nV m),some (.int W),some (nV sN),some (nV tN),some (.str "abcdefghijklmnopqrstuvwxyz"),some (.ref pE),some (.ref pP),some (.ref D4),some v9,none,none]∧Same H5 H6∧Rp H6 (FN H) 2 v9 (dLL TD)∧TD.length=eP.length∧∀ l∈TD,Rise tN l) ?_ (fun key=> ?_)
    · rintro σ' H6 ⟨v9,TD,rfl,s6,r9,lTD,rTD⟩
      have s06:=s05.trans s6
      replace r4:=r4.same s6
      replace hE:=s6 _ _ hE
      replace hP:=s6 _ _ hP
      walk_at "w"
      refine ⟨pE,rfl,⟨_,SqL.of hE⟩,fun D7 hD7=> ?_⟩
      have bm:∀ k:Int,(0:Int)<1+mixV W k%26∧1+mixV W k%26≤26:=fun k=>by
        have h0:=Int.emod_nonneg (mixV W k) (show (26:Int)≠0 by decide)
        have h1:=Int.emod_lt_of_pos (mixV W k) (show (0:Int)<26 by decide)
        omega
      have bq:∀ (x k:Int),0≤x%(1+mixV W k%26)∧x%(1+mixV W k%26)<26:=fun x k=>by
        have h:=bm k
        have h0:=Int.emod_nonneg x (show (1+mixV W k%26)≠0 by omega)
        have h1:=Int.emod_lt_of_pos x h.1
        omega
      refine comp_map (m:=0) (G:=fun i=> .str (letS (eE.getD i 0 / 17%(1+mixV W 41%26)))) (src_list (SqL.of hE) rfl) hD7 (by rw [List.length_map];omega) ?_ ?_
      · intro i H' R hi s kk
        rw [getD_int hi]
        walk_at "w"
        refine rd_rI ⟨by decide,by decide⟩ ?_
        walk_at "w"
        refine ⟨W,41,rfl,⟨by decide,by decide⟩,?_⟩
        walk_at "w"
        refine rd_rI (by decide) ?_
        walk_at "w"
        refine rd_rI (bm 41).1 ?_
        have:=bq (eE.getD i 0 / 17) 41
        refine rd_ixS (by decide) (let_atI this.1 this.2) ?_
        exact kk H' _ (Same.refl _) (.str _)
      intro H7 ys7 s7 hl7 r7
      rw [List.length_map,dS_map] at r7
      have s07:=s06.trans s7
      replace r7:Rp H7 (FN H) 2 (.ref D7) _:=(r7.imp fun a ha=>s06.free ha).up (by decide)
      replace r4:=r4.same s7
      replace r9:=r9.same s7
      replace hE:=s7 _ _ hE
      replace hP:=s7 _ _ hP
      walk_at "w"
      refine ⟨pP,rfl,⟨_,SqL.of hP⟩,fun D8 hD8=> ?_⟩
      refine comp_map (m:=0) (G:=fun i=> .str (letS (eP.getD i 0 / 70000%(1+mixV W 42%26)))) (src_list (SqL.of hP) rfl) hD8 (by rw [List.length_map];omega) ?_ ?_
      · intro i H' R hi s kk
        rw [getD_int hi]
        walk_at "w"
        refine rd_rI ⟨by decide,by decide⟩ ?_
        walk_at "w"
        refine ⟨W,42,rfl,⟨by decide,by decide⟩,?_⟩
        walk_at "w"
        refine rd_rI (by decide) ?_
        walk_at "w"
        refine rd_rI (bm 42).1 ?_
        have:=bq (eP.getD i 0 / 70000) 42
        refine rd_ixS (by decide) (let_atI this.1 this.2) ?_
        exact kk H' _ (Same.refl _) (.str _)
      intro H8 ys8 s8 hl8 r8
      rw [List.length_map,dS_map] at r8
      have s08:=s07.trans s8
      replace r8:Rp H8 (FN H) 2 (.ref D8) _:=(r8.imp fun a ha=>s07.free ha).up (by decide)
      replace r4:=r4.same s8
      replace r9:=r9.same s8
      replace r7:=r7.same s8
      replace hE:=s8 _ _ hE
      walk_at "w"
      refine ⟨pE,rfl,⟨_,SqL.of hE⟩,fun DA hDA=> ?_⟩
      refine comp_map (m:=0) (G:=fun i=>dN (eE.getD i 0%((sN+1:Nat):Int)).toNat) (src_list (SqL.of hE) rfl) hDA (by rw [List.length_map];omega) ?_ ?_
      · intro i H' R hi s kk
        rw [getD_int hi]
        walk_at "w"
        refine rd_rI (by show (0:Int)<_;omega) ?_
        have h0:=Int.emod_nonneg (eE.getD i 0) (show ((sN:Nat):Int)+1≠0 by omega)
        have e:eE.getD i 0%(((sN:Nat):Int)+1)=(((eE.getD i 0%((sN+1:Nat):Int)).toNat:Nat):Int):=by
          rw [show ((sN+1:Nat):Int)=((sN:Nat):Int)+1 by omega]
          omega
        rw [e]
        exact kk H' _ (Same.refl _) (.int _)
      intro HA ysA sA hlA rA
      rw [List.length_map,dL_map] at rA
      have s0A:=s08.trans sA
      replace rA:Rp HA (FN H) 2 (.ref DA) _:=(rA.imp fun a ha=>s08.free ha).up (by decide)
      replace r4:=r4.same sA
      replace r9:=r9.same sA
      replace r7:=r7.same sA
      replace r8:=r8.same sA
      walk_at "w"
      intro p hp
      have sB:=same_new (o:=HO.tup [nV sN,nV tN, .ref DA, .ref D4,v9, .ref D7, .ref D8]) hp
      refine (fun z=>k _ p ⟨sN,tN,_,TI,TD,_,_⟩ (s0A.trans sB) (s0A.free hp) (rp_tup7 upd_same (.int _) (.int _) (rA.same sB) (r4.same sB) (r9.same sB) (r7.same sB) (r8.same sB)) z (by simpa using lE2.2) (by show TD.length≤_;omega)) ?_
      exact {
        s1:=sN1,s2:=sN2,t1:=tN1,t2:=tN2
        h1:=by simpa using lE1
        h2:=by simpa using lE2.1
        hs:=fun n hn=>by
          obtain ⟨i,_,rfl⟩:=List.mem_map.mp hn
          have h0:=Int.emod_nonneg (eE.getD i 0) (show ((sN+1:Nat):Int)≠0 by omega)
          have h1:=Int.emod_lt_of_pos (eE.getD i 0) (show (0:Int)<((sN+1:Nat):Int) by omega)
          show _≤sN
          omega
        il:=lTI,ir:=rTI
        p1:=by show 1≤TD.length;omega
        p2:=by show TD.length≤60;omega
        pr:=rTD
        wl:=by simp
        wc:=fun z hz=>by
          obtain ⟨i,_,rfl⟩:=List.mem_map.mp hz
          exact let_ok (bq _ 41).1 (bq _ 41).2
        fl:=by simp [lTD]
        fc:=fun z hz=>by
          obtain ⟨i,_,rfl⟩:=List.mem_map.mp hz
          exact let_ok (bq _ 42).1 (bq _ 42).2 }
    · walk_at "w"
      refine ⟨W,40,rfl,⟨by decide,by decide⟩,?_⟩
      walk_at "w"
      refine rd_rI (by decide) ?_
      walk_at "w"
      refine iteP (fun h0=> ?_) (fun h0=> ?_)
      · walk_at "w"
        refine ⟨pP,rfl,⟨_,SqL.of hP⟩,fun D6 hD6=> ?_⟩
        refine comp_map (m:=1) (G:=fun i=>dL [(1+eP.getD i 0%(tN:Nat)).toNat]) (src_list (SqL.of hP) rfl) hD6 (by rw [List.length_map];omega) ?_ ?_
        · intro i H' R hi s kk
          rw [getD_int hi]
          walk_at "w"
          refine rd_rI (by show (0:Int)<(tN:Nat);omega) ?_
          walk_at "w"
          intro q hq
          have h0:=Int.emod_nonneg (eP.getD i 0) (show ((tN:Nat):Int)≠0 by omega)
          refine kk _ _ (same_new hq) (rp_L ?_ hq (by simp))
          rw [upd_same]
          show some (HO.lst [V.int (1+eP.getD i 0%(tN:Nat))])=some (HO.lst [V.int (((1+eP.getD i 0%(tN:Nat)).toNat:Nat):Int)])
          congr 4
          omega
        · intro H6 ys6 s6 hl6 r6
          rw [List.length_map,dLL_map (fun i=>[(1+eP.getD i 0%(tN:Nat)).toNat])] at r6
          refine rd_name ?_
          refine key _ _ ⟨_,_,rfl,s6,r6.imp fun a ha=>s05.free ha,by simp,fun l hl=> ?_⟩
          obtain ⟨i,_,rfl⟩:=List.mem_map.mp hl
          have h0:=Int.emod_nonneg (eP.getD i 0) (show ((tN:Nat):Int)≠0 by omega)
          have h1:=Int.emod_lt_of_pos (eP.getD i 0) (show (0:Int)<(tN:Nat) by omega)
          intro j hj
          have hj:j=0:=by simpa using hj
          subst hj
          show 0+1≤(1+eP.getD i 0%(tN:Nat)).toNat∧(1+eP.getD i 0%(tN:Nat)).toNat≤tN
          omega
      · refine rd_next ?_
        refine key _ _ ⟨_,_,rfl,Same.refl _,r5,by simp,fun l hl=> ?_⟩
        obtain ⟨i,_,rfl⟩:=List.mem_map.mp hl
        exact rise_filter _ tN
end
end K31
open L2
namespace K31
open PySem L2 PySem.Spec PyProof.Rows
seal L2.PE L2.PT L2.PW L2.PA L2.PS L2.PSs L2.PI L2.PG L2.PTs L2.PGs
section
variable {P:Program} {w:World} {K:PySem.W.Frag} {mg:Str→Option Value} {base:Heap} {c:Cs}
noncomputable abbrev Ft:=Str × List Nat
noncomputable def fV (f:Ft):List V:= .str f.1::f.2.map nV
noncomputable def dF (f:Ft):Dt:= .tup (.str f.1::f.2.map dN)
noncomputable def TF (H:Hp) (v:V) (f:Ft):Prop:=∃ a,v= .ref a∧H a=some (.tup (fV f))∧f.2.length≤10
structure FsAt (H:Hp) (vs:List V) (fs:List Ft):Prop where
  len:vs.length=fs.length
  el:∀ (i:Nat) (v:V) (f:Ft),vs[i]?=some v→fs[i]?=some f→TF H v f
theorem FsAt.keep {H H':Hp} {vs:List V} {fs:List Ft} (h:FsAt H vs fs) (k:∀ a xs,H a=some (.tup xs)→H' a=some (.tup xs)):FsAt H' vs fs:=
  ⟨h.len,fun i v f h1 h2=>let ⟨a,e,ha,l⟩:=h.el i v f h1 h2;⟨a,e,k _ _ ha,l⟩⟩
theorem FsAt.same {H H':Hp} {vs:List V} {fs:List Ft} (h:FsAt H vs fs) (s:Same H H'):FsAt H' vs fs:=h.keep fun a xs e=>s a _ e
theorem FsAt.put {H:Hp} {vs:List V} {fs:List Ft} {p:Addr} {o:HO} {us:List V} (h:FsAt H vs fs) (hp:H p=some (.lst us)):FsAt (upd H p o) vs fs:=h.keep fun a xs e=>by
  rw [upd_ne (fun z=>by rw [z,hp] at e;cases e)]
  exact e
theorem FsAt.nil (H:Hp):FsAt H [] []:=⟨rfl,fun i v f h1 h2=>by cases h1⟩
theorem FsAt.app {H:Hp} {vs us:List V} {fs gs:List Ft} (h:FsAt H vs fs) (h2:FsAt H us gs):FsAt H (vs++us) (fs++gs):=by
  refine ⟨by rw [List.length_append,List.length_append,h.len,h2.len],fun i v f e1 e2=> ?_⟩
  rcases Nat.lt_or_ge i vs.length with z | z
  · rw [List.getElem?_append_left z] at e1
    rw [List.getElem?_append_left (by rw [← h.len];exact z)] at e2
    exact h.el i v f e1 e2
  · rw [List.getElem?_append_right z] at e1
    rw [List.getElem?_append_right (by rw [← h.len];exact z), ← h.len] at e2
    exact h2.el _ v f e1 e2
theorem rp_F {H:Hp} {F:Addr→Prop} {n:Nat} {a:Addr} {f:Ft} (h:H a=some (.tup (fV f))) (l:f.2.length≤10):Rp H F (n+1) (.ref a) (dF f):=by
  refine .tup h (by unfold fV;simp;omega) (by unfold fV;simp) fun i v d h1 h2=> ?_
  cases i with
  | zero=>cases h1;cases h2;exact .str _
  | succ i=>exact rp_map (f:=nV) (g:=dN) (fun k _=> .int _) i v d h1 h2
theorem FsAt.rp {H:Hp} {F:Addr→Prop} {p:Addr} {vs:List V} {fs:List Ft} (h:FsAt H vs fs) (hp:H p=some (.lst vs)) (f:F p) (l:vs.length≤100000):Rp H F 2 (.ref p) (.lst (fs.map dF)):=by
  refine .lst hp f l (by rw [List.length_map,h.len]) fun i v d h1 h2=> ?_
  rw [List.getElem?_map] at h2
  cases hf:fs[i]? with
  | none=>rw [hf] at h2;cases h2
  | some g=>
    rw [hf] at h2
    cases h2
    obtain ⟨a,rfl,ha,hl⟩:=h.el i v g h1 hf
    exact rp_F ha hl
theorem rp_FN {H:Hp} {F:Addr→Prop} {n:Nat} {v:V} {f:Ft} (r:Rp H F n v (dF f)) (l:f.2.length≤10):TF H v f:=by
  unfold dF at r
  obtain ⟨m,a,vs,rfl,rfl,ha,hl,hb,el⟩:=tup_of r
  have e:vs=fV f:=by
    refine List.ext_getElem? fun i=> ?_
    rcases Nat.lt_or_ge i vs.length with z | z
    · have hi:i<(Dt.str f.1::f.2.map dN).length:=by omega
      have h0:=el i hi
      have hv:vs[i]?=some (vs.getD i .non):=by rw [List.getD_eq_getElem?_getD,List.getElem?_eq_getElem z];rfl
      rw [hv]
      cases i with
      | zero=>
        generalize vs.getD 0 .non=y at h0 ⊢
        cases h0
        rfl
      | succ i=>
        have hi':i<f.2.length:=by simpa using hi
        have e1:(Dt.str f.1::f.2.map dN).getD (i+1) .non=dN (f.2.getD i 0):=by
          rw [List.getD_eq_getElem?_getD,List.getElem?_cons_succ,List.getElem?_map,List.getElem?_eq_getElem hi',List.getD_eq_getElem?_getD,List.getElem?_eq_getElem hi']
          rfl
        rw [e1] at h0
        generalize vs.getD (i+1) .non=y at h0 ⊢
        cases h0
        show _=(V.str f.1::f.2.map nV)[i+1]?
        rw [List.getElem?_cons_succ,List.getElem?_map,List.getElem?_eq_getElem hi',List.getD_eq_getElem?_getD,List.getElem?_eq_getElem hi']
        rfl
    · rw [List.getElem?_eq_none z,List.getElem?_eq_none (by unfold fV;simp at hl ⊢;omega)]
  exact ⟨a,rfl,e▸ha,l⟩
theorem fs_of {H:Hp} {F:Addr→Prop} {n:Nat} {p:Addr} {fs:List Ft} {vs:List V} (r:Rp H F n (.ref p) (.lst (fs.map dF))) (hp:H p=some (.lst vs)) (l:∀ f∈fs,f.2.length≤10):FsAt H vs fs∧vs.length≤100000:=by
  obtain ⟨m,a,vs',rfl,e,ha,hf,hl,hb,el⟩:=lst_of r
  cases e
  rw [hp] at ha
  cases ha
  rw [List.length_map] at hl
  refine ⟨⟨hl,fun i v f h1 h2=> ?_⟩,hb⟩
  have hi:i<fs.length:=(List.getElem?_eq_some_iff.mp h2).1
  have r1:=el i (by simpa using hi)
  rw [List.getD_eq_getElem?_getD,h1,List.getD_eq_getElem?_getD,List.getElem?_map,h2] at r1
  exact rp_FN r1 (l f (List.mem_of_getElem? h2))
noncomputable def butN (lo hi:Nat) (ns:List Nat):List Nat:=((List.range (hi+1 - lo)).map (lo+ ·)).filter fun s=> !decide (s∈ns)
theorem rd_notinN {H:Hp} {Q:VK} {tp:Bool} {p:Addr} {s:Nat} {ns:List Nat} (c:SqS tp K H p (ns.map nV)) (h:Q (.bl (!decide (s∈ns))) H):rIn K true (nV s) (.ref p) H Q:=by
  refine ⟨p,_,rfl,?_,rfl,flat_nat ns,by rw [inV_nat];exact h⟩
  cases tp with
  | false=>exact .inl c
  | true=>exact .inr c
noncomputable def sp_shafts_but (K:PySem.W.Frag):Sp:=fun vs H Q _=>∃ tp a,∃ ns:List Nat,∃ lo hi:Nat,vs=[.ref a,nV lo,nV hi]∧SqS tp K H a (ns.map nV)∧lo≤1∧hi≤16∧∀ H' p,Same H H'→H p=none→H' p=some (.lst ((butN lo hi ns).map nV))→Q (.ref p) H'
noncomputable abbrev s_shafts_but:Stmt:=top 22
theorem sc_shafts_but:FnScope ["left_out","least","most"] ["left_out","least","most"] (defScope s_shafts_but):=⟨rfl,rfl,rfl,by decide +kernel,rfl,by decide +kernel,by decide +kernel⟩
theorem ok_shafts_but {f:Addr} {fd:FuncData} (F:Fun K "shafts_but" "shafts_but" s_shafts_but f fd) (T:Txt K mg c):FnOk P w K mg base CX0 1 f fd ["left_out","least","most"] (sp_shafts_but K):=by
  refine F.ok sc_shafts_but (fun vs H Q E h=> ?_) (fun cdv A outer s H vs Q E hr h=> ?_)
  · obtain ⟨tp,a,ns,lo,hi,rfl,_⟩:=h
    rfl
  · obtain ⟨tp,a,ns,lo,hi,rfl,sa,h1,h2,k⟩:=h
    refine ⟨_,(pss_one (ps_ret (pe_comp1 (pi_range2 rfl (T.own _ (by decide)) (pa_cons (pv 1) (pa_cons (pe_op op_add (pv 2) pe_int) pa_nil))) (fun _ _ _ _=>(pts_one (pt_cmpR (k_notin (K:=K)) (pv 0) (pv 1) (by with_unfolding_all rfl)))) (fun _ _ _ _=>(pv 0))))),?_⟩
    walk_at "w"
    refine ⟨_,_,rfl,⟨by omega,by omega,by omega,by omega⟩,fun D hD=> ?_⟩
    rw [show (((hi:Nat):Int)+1 - (lo:Nat)).toNat=hi+1 - lo by omega]
    refine ints_compF (p:=fun i=> !decide (lo+i∈ns)) (G:=fun i=>((lo+i:Nat):Int)) (src_range rfl) hD (by omega) ?_ ?_ ?_
    · intro i H' R hi' s kk
      rw [show ((lo:Nat):Int)+(i:Nat)=((lo+i:Nat):Int) by omega]
      walk_at "w"
      refine rd_notinN (tp:=tp) (SqS.same sa s) ?_
      exact ⟨_,rfl,kk H' (Same.refl _)⟩
    · intro i H' R hi' hp s kk
      rw [show ((lo:Nat):Int)+(i:Nat)=((lo+i:Nat):Int) by omega]
      walk_at "w"
      exact kk H' (Same.refl _)
    · intro H' s hl
      refine k H' D s hD ?_
      rw [hl]
      unfold butN
      rw [List.filter_map,List.map_map,List.map_map]
      rfl
noncomputable def loneF (z:Str) (m:Nat):List Ft:=(List.range m).map fun i=>(z,[i+1])
noncomputable def sp_lone_faults:Sp:=fun vs H Q _=>∃ (z:Str) (m:Nat),vs=[.str z,nV m]∧m≤60∧∀ H' p ws,Same H H'→H p=none→H' p=some (.lst ws)→FsAt H' ws (loneF z m)→Q (.ref p) H'
noncomputable abbrev s_lone_faults:Stmt:=top 50
theorem sc_lone_faults:FnScope ["kind","most"] ["kind","most"] (defScope s_lone_faults):=⟨rfl,rfl,rfl,by decide +kernel,rfl,by decide +kernel,by decide +kernel⟩
theorem ok_lone_faults {f:Addr} {fd:FuncData} (F:Fun K "lone_faults" "lone_faults" s_lone_faults f fd) (T:Txt K mg c):FnOk P w K mg base CX0 1 f fd ["kind","most"] sp_lone_faults:=by
  refine F.ok sc_lone_faults (fun vs H Q E h=> ?_) (fun cdv A outer s H vs Q E hr h=> ?_)
  · obtain ⟨z,m,rfl,_⟩:=h
    rfl
  · obtain ⟨z,m,rfl,hm,k⟩:=h
    refine ⟨_,(pss_one (ps_ret (pe_comp1 (pi_range2 rfl (T.own _ (by decide)) (pa_cons pe_int (pa_cons (pe_op op_add (pv 1) pe_int) pa_nil))) (fun _ _ _ _=>pts_nil) (fun _ _ _ _=>(pe_tup (pa_cons (pv 1) (pa_cons (pv 0) pa_nil))))))),?_⟩
    walk_at "w"
    refine ⟨_,_,rfl,⟨by decide,by decide,by omega,by omega⟩,fun D hD=> ?_⟩
    rw [show (((m:Nat):Int)+1 - 1).toNat=m by omega]
    refine comp_map (m:=1) (G:=fun i=>dF (z,[i+1])) (src_range rfl) hD (by omega) ?_ ?_
    · intro i H' R hi s kk
      rw [show (1:Int)+(i:Nat)=((i+1:Nat):Int) by omega]
      walk_at "w"
      intro q hq
      exact kk _ _ (same_new hq) (rp_F (f:=(z,[i+1])) upd_same (by simp))
    · intro H' ys s hl r
      have e:(List.range m).map (fun i=>dF (z,[i+1]))=(loneF z m).map dF:=by unfold loneF;rw [List.map_map];rfl
      rw [e] at r
      refine k H' D ys s hD hl (fs_of r hl fun f hf=> ?_).1
      obtain ⟨i,_,rfl⟩:=List.mem_map.mp hf
      simp
noncomputable def shF (z:Str) (xss:List (List Nat)):Nat→List Ft
  | 0=>[]
  | i+1=>shF z xss i++(xss.getD i []).map fun s=>(z,[i+1,s])
noncomputable def LsAt (tp:Bool) (K:PySem.W.Frag) (H:Hp) (a:Addr) (xss:List (List Nat)):Prop:=∃ vs,SqS tp K H a vs∧vs.length=xss.length∧∀ i,i<xss.length→∃ b,vs.getD i .non= .ref b∧SqS tp K H b ((xss.getD i []).map nV)∧(xss.getD i []).length≤17
theorem shF_len {z:Str} {xss:List (List Nat)} (h:∀ i,i<xss.length→(xss.getD i []).length≤17):∀ i,i≤xss.length→(shF z xss i).length≤17*i
  | 0,_=>by simp [shF]
  | i+1,hi=>by
    have:=shF_len (z:=z) h i (by omega)
    have:=h i (by omega)
    show (shF z xss i++(xss.getD i []).map fun s=>((z,[i+1,s]):Ft)).length≤_
    rw [List.length_append,List.length_map]
    omega
noncomputable def sp_shaft_faults (K:PySem.W.Frag):Sp:=fun vs H Q _=>∃ z:Str,∃ tp a xss,vs=[.str z, .ref a]∧LsAt tp K H a xss∧xss.length≤60∧∀ H' p ws,Same H H'→H p=none→H' p=some (.lst ws)→FsAt H' ws (shF z xss xss.length)→Q (.ref p) H'
noncomputable abbrev s_shaft_faults:Stmt:=top 51
theorem sc_shaft_faults:FnScope ["kind","lists","faults","number","shafts"] ["kind","lists"] (defScope s_shaft_faults):=⟨rfl,rfl,rfl,by decide +kernel,rfl,by decide +kernel,by decide +kernel⟩
theorem ok_shaft_faults {f:Addr} {fd:FuncData} (F:Fun K "shaft_faults" "shaft_faults" s_shaft_faults f fd) (T:Txt K mg c):FnOk P w K mg base CX0 1 f fd ["kind","lists"] (sp_shaft_faults K):=by
  refine F.ok sc_shaft_faults (fun vs H Q E h=> ?_) (fun cdv A outer s H vs Q E hr h=> ?_)
  · obtain ⟨z,tp,a,xss,rfl,_⟩:=h
    rfl
  · obtain ⟨z,tp,a,xss,rfl,⟨vs,sa,lv,el⟩,hx,k⟩:=h
    refine ⟨_,(pss_cons (ps_set (i:=2) sc_shaft_faults.nd rfl (Or.inl rfl) (pe_lst pa_nil))
      (pss_cons (ps_for PassesOwn.never rfl (pi_enumS (K:=K) rfl (T.own _ (by decide)) (pa_cons (pv 1) pa_nil)) (k_gtup (K:=K) rfl (pgs_cons (pg_name (i:=3) sc_shaft_faults.nd rfl (Or.inr rfl)) (pgs_cons (pg_name (i:=4) sc_shaft_faults.nd rfl (Or.inl rfl)) pgs_nil))) (pss_one (ps_expr (kx_bm (K:=K) PySem.F.plainAttrs_list PySem.F.slot_list_extend PySem.F.type_list_extend mt_extend (pv 2) (pa_cons (pe_comp1 (pi_sq (K:=K) (pv 4)) (fun _ _ _ _=>pts_nil) (fun _ _ _ _=>(pe_tup (pa_cons (pv 1) (pa_cons (pv 2) (pa_cons (pv 0) pa_nil)))))) pa_nil)))))
      (pss_one (ps_ret (pv 2))))),?_⟩
    walk_at "w"
    intro q hq
    walk_at "w"
    have s1:=same_new (o:=HO.lst []) hq
    refine ⟨tp,a,rfl,⟨_,SqS.same sa s1⟩,for_srcW (H0:=H) (fs_enumS sa) (fun i σ H3=>∃ y u ws,σ=[some (.str z),some (.ref a),some (.ref q),y,u]∧Same H H3∧H3 q=some (.lst ws)∧FsAt H3 ws (shF z xss i)) ⟨_,_,[],rfl,s1,upd_same,FsAt.nil _⟩ (fun i σ H3 ⟨_,_,_,_,s,_⟩=>s) ?_ ?_⟩
    · rintro i σ H' H3 hi ⟨y,u,ws,rfl,s',hw,fw⟩ s3
      have hi':i<xss.length:=by omega
      have sH:=s'.trans s3
      obtain ⟨b,eb,hb,lb⟩:=el i hi'
      rw [eb]
      walk_at "w"
      refine tyL (SqL.of (s3 _ _ hw)) ?_
      walk_at "w"
      refine ⟨tp,b,rfl,⟨_,SqS.same hb sH⟩,fun D hD=> ?_⟩
      refine comp_map (m:=1) (G:=fun j=>dF (z,[i+1,(xss.getD i []).getD j 0])) (src_sq (SqS.same hb sH) rfl) hD (by rw [List.length_map];omega) ?_ ?_
      · intro j H4 R hj s4 kk
        rw [getD_nat hj]
        walk_at "w"
        intro t ht
        exact kk _ _ (same_new ht) (rp_F (f:=(z,[i+1,(xss.getD i []).getD j 0])) upd_same (by simp))
      · intro H4 ys s4 hl r
        rw [List.length_map] at r
        have e:(List.range (xss.getD i []).length).map (fun j=>dF (z,[i+1,(xss.getD i []).getD j 0]))=((xss.getD i []).map fun s=>((z,[i+1,s]):Ft)).map dF:=by
          rw [List.map_map]
          exact map_range_getD (fun s=>dF (z,[i+1,s])) (xss.getD i []) 0
        rw [e] at r
        have fy:=(fs_of r hl fun f hf=>by
          obtain ⟨i,_,rfl⟩:=List.mem_map.mp hf
          simp).1
        have hq4:=s4 _ _ (s3 _ _ hw)
        have fw4:=fw.same (s3.trans s4)
        have lw:=fw.len
        have ly:=fy.len
        have:=shF_len (z:=z) (xss:=xss) (fun i hi=>let ⟨_,_,_,l⟩:=el i hi;l) i (by omega)
        walk_at "w"
        refine rd_ext hq4 hl (by rw [List.length_map] at ly;omega) ?_
        walk_at "w"
        refine ⟨_,_,_,rfl,?_,upd_same,(fw4.app fy).put hq4⟩
        exact fun b' o e=>by
          rw [upd_ne (fun w=>by rw [w,hq] at e;cases e)]
          exact s4 _ _ (sH _ _ e)
    · rintro σ H3 ⟨y,u,ws,rfl,s3,hw,fw⟩
      walk_at "w"
      rw [lv] at fw
      exact k H3 q ws s3 hq hw fw
end
end K31
open L2
namespace K31
open PySem L2 PySem.Spec PyProof.Rows
seal L2.PE L2.PT L2.PW L2.PA L2.PS L2.PSs L2.PI L2.PG L2.PTs L2.PGs
section
variable {P:Program} {w:World} {K:PySem.W.Frag} {mg:Str→Option Value} {base:Heap} {c:Cs}
noncomputable def allF (d:Dr):List Ft:=loneF "up" d.sh++loneF "down" d.sh++loneF "broken" d.th.length++shF "loose" d.ti d.ti.length++shF "tied" (d.ti.map (butN 1 d.sh)) d.ti.length++shF "drawn" (d.th.map fun k=>butN 0 d.sh [k]) d.th.length
theorem ls_rp {H:Hp} {F:Addr→Prop} {n:Nat} {D:Addr} {xss:List (List Nat)} (r:Rp H F n (.ref D) (.lst (xss.map dL))) (l:∀ xs∈xss,xs.length≤17):LsAt false K H D xss:=by
  obtain ⟨m,a,vs,rfl,e,ha,hf,hl,hb,el⟩:=lst_of r
  cases e
  rw [List.length_map] at hl
  refine ⟨vs,SqL.of ha,hl,fun i hi=> ?_⟩
  have r1:=el i (by simpa using hi)
  rw [getD_map dL xss i .non [] hi] at r1
  obtain ⟨b,eb,hb1,_,_⟩:=dL_of r1
  exact ⟨b,eb,SqL.of hb1,l _ (getD_mem (y:=[]) hi)⟩
theorem ls_tt {H:Hp} {F:Addr→Prop} {n:Nat} {D:Addr} {xss:List (List Nat)} (r:Rp H F n (.ref D) (dTT xss)) (l:∀ xs∈xss,xs.length≤17):LsAt true K H D xss:=by
  obtain ⟨m,a,vs,rfl,e,ha,hl,hb,el⟩:=tup_of r
  cases e
  rw [List.length_map] at hl
  refine ⟨vs,SqT.of ha,hl,fun i hi=> ?_⟩
  have r1:=el i (by simpa using hi)
  rw [getD_map dT xss i .non [] hi] at r1
  obtain ⟨b,eb,hb1,_⟩:=dT_of r1
  exact ⟨b,eb,SqT.of hb1,l _ (getD_mem (y:=[]) hi)⟩
theorem LsAt.same {tp:Bool} {H H':Hp} {a:Addr} {xss:List (List Nat)} (h:LsAt tp K H a xss) (s:Same H H'):LsAt tp K H' a xss:=by
  obtain ⟨vs,h1,h2,h3⟩:=h
  refine ⟨vs,SqS.same h1 s,h2,fun i hi=> ?_⟩
  obtain ⟨b,e,h4,h5⟩:=h3 i hi
  exact ⟨b,e,SqS.same h4 s,h5⟩
theorem but_len (lo hi:Nat) (ns:List Nat):(butN lo hi ns).length≤hi+1 - lo:=by
  unfold butN
  refine Nat.le_trans (List.length_filter_le _ _) ?_
  simp
theorem rise_ge {sh:Nat} {xs:List Nat} (r:Rise sh xs):∀ i,i<xs.length→i+1≤xs.getD i 0
  | 0,hi=>by have:=(r 0 hi).1;simpa using this
  | i+1,hi=>by
    have h0:=rise_ge r i (by omega)
    have h1:=(r (i+1) hi).1
    have e:(0::xs).getD (i+1) 0=xs.getD i 0:=rfl
    rw [e] at h1
    omega
theorem rise_len {sh:Nat} {xs:List Nat} (r:Rise sh xs):xs.length≤sh:=by
  rcases Nat.eq_zero_or_pos xs.length with z | z
  · omega
  · have h0:=rise_ge r (xs.length - 1) (by omega)
    have h1:=(r (xs.length - 1) (by omega)).2
    omega
theorem ext_ok {H H1 H2:Hp} {q p:Addr} {w u:List V} {fs gs:List Ft} (s:Same H H1) (hq:H q=none) (g:H1 q=some (.lst w)) (f:FsAt H1 w fs) (s2:Same H1 H2) (f2:FsAt H2 u gs):
    Same H (upd H2 q (.lst (w++u)))∧upd H2 q (.lst (w++u)) q=some (.lst (w++u))∧FsAt (upd H2 q (.lst (w++u))) (w++u) (fs++gs):=by
  refine ⟨fun b o e=> ?_,upd_same,((f.same s2).app f2).put (s2 _ _ g)⟩
  rw [upd_ne (fun z=>by rw [z,hq] at e;cases e)]
  exact s2 _ _ (s _ _ e)
noncomputable def sp_all_faults (c:Cs):Sp:=fun vs H Q _=>∃ x d,vs=[.ref x]∧DrAt c.Draft H x d∧DrOk d∧∀ H' p ws,Same H H'→H p=none→H' p=some (.lst ws)→FsAt H' ws (allF d)→ws.length≤5000→Q (.ref p) H'
noncomputable abbrev s_all_faults:Stmt:=top 52
theorem sc_all_faults:FnScope ["draft","shafts","faults"] ["draft"] (defScope s_all_faults):=⟨rfl,rfl,rfl,by decide +kernel,rfl,by decide +kernel,by decide +kernel⟩
theorem ok_all_faults {f:Addr} {fd:FuncData} (F:Fun K "all_faults" "all_faults" s_all_faults f fd) (T:Txt K mg c) (c_lone_faults:CallF P w K mg base "lone_faults" 1 ["kind","most"] sp_lone_faults) (c_shaft_faults:CallF P w K mg base "shaft_faults" 1 ["kind","lists"] (sp_shaft_faults K)) (c_shafts_but:CallF P w K mg base "shafts_but" 1 ["left_out","least","most"] (sp_shafts_but K)) (d_Draft_ends:MethF P w K mg base c.Draft "ends" 1 ["self"] (sp_Draft_ends c)):FnOk P w K mg base CX0 2 f fd ["draft"] (sp_all_faults c):=by
  refine F.ok sc_all_faults (fun vs H Q E h=> ?_) (fun cdv A outer s H vs Q E hr h=> ?_)
  · obtain ⟨x,d,rfl,_⟩:=h
    rfl
  · obtain ⟨x,d,rfl,dr,ok,k⟩:=h
    have dr0:=dr
    obtain ⟨dx,v1,v2,v3,v4,v5,h0,h1,h2,h3,h4,h5⟩:=dr
    obtain ⟨a1,rfl,e1,b1⟩:=dT_of h1
    have s2:=ok.s2
    have th2:=ok.h2
    have til:=ok.il
    have t2:=ok.t2
    have lti:∀ xs∈d.ti,xs.length≤17:=fun xs hx=>by have:=rise_len (ok.ir xs hx);omega
    refine ⟨_,(pss_cons (ps_set (i:=1) sc_all_faults.nd rfl (Or.inr rfl) (k_fld (K:=K) (pv 0) rfl))
      (pss_cons (ps_set (i:=2) sc_all_faults.nd rfl (Or.inl rfl) (pe_op (k_cat (K:=K)) (pe_op (k_cat (K:=K)) (pe_callF c_lone_faults hr (pa_cons (pe_gS T.k_UP) (pa_cons (pv 1) pa_nil))) (pe_callF c_lone_faults hr (pa_cons (pe_gS T.k_DOWN) (pa_cons (pv 1) pa_nil)))) (pe_callF c_lone_faults hr (pa_cons (pe_gS T.k_BROKEN) (pa_cons (pe_methF0 (pv 0) d_Draft_ends hr) pa_nil)))))
      (pss_cons (ps_expr (kx_bm (K:=K) PySem.F.plainAttrs_list PySem.F.slot_list_extend PySem.F.type_list_extend mt_extend (pv 2) (pa_cons (pe_callF c_shaft_faults hr (pa_cons (pe_gS T.k_LOOSE) (pa_cons (k_fld (K:=K) (pv 0) rfl) pa_nil))) pa_nil)))
      (pss_cons (ps_expr (kx_bm (K:=K) PySem.F.plainAttrs_list PySem.F.slot_list_extend PySem.F.type_list_extend mt_extend (pv 2) (pa_cons (pe_callF c_shaft_faults hr (pa_cons (pe_gS T.k_TIED) (pa_cons (pe_comp1 (k_pit (K:=K) (k_fld (K:=K) (pv 0) rfl)) (fun _ _ _ _=>pts_nil) (fun _ _ _ _=>(pe_callF c_shafts_but hr (pa_cons (pv 0) (pa_cons pe_int (pa_cons (pv 1) pa_nil)))))) pa_nil))) pa_nil)))
      (pss_cons (ps_expr (kx_bm (K:=K) PySem.F.plainAttrs_list PySem.F.slot_list_extend PySem.F.type_list_extend mt_extend (pv 2) (pa_cons (pe_callF c_shaft_faults hr (pa_cons (pe_gS T.k_DRAWN) (pa_cons (pe_comp1 (k_pit (K:=K) (k_fld (K:=K) (pv 0) rfl)) (fun _ _ _ _=>pts_nil) (fun _ _ _ _=>(pe_callF c_shafts_but hr (pa_cons (pe_lst (pa_cons (pv 0) pa_nil)) (pa_cons pe_int (pa_cons (pv 1) pa_nil)))))) pa_nil))) pa_nil)))
      (pss_one (ps_ret (pv 2)))))))),?_⟩
    walk_at "w"
    refine ⟨_,_,_,_,_,rfl,h0,T.kd_Draft.cl,T.na_Draft_shafts,rfl,?_⟩
    walk_at "w"
    refine ⟨_,d.sh,rfl,by omega,fun H1 q1 w1 s1 hq1 g1 f1=> ?_⟩
    walk_at "w"
    refine ⟨_,d.sh,rfl,by omega,fun H2 q2 w2 s2' hq2 g2 f2=> ?_⟩
    walk_at "w"
    have l1:=f1.len
    have l2:=f2.len
    have n1:(loneF "up" d.sh).length=d.sh:=by simp [loneF]
    have n2:(loneF "down" d.sh).length=d.sh:=by simp [loneF]
    refine rd_cat (SqL.of (s2' _ _ g1)) (SqL.of g2) (by omega) fun q3 hq3=> ?_
    have s3:=same_new (o:=HO.lst (w1++w2)) hq3
    have g3:upd H2 q3 (HO.lst (w1++w2)) q3=_:=upd_same
    generalize upd H2 q3 (HO.lst (w1++w2))=H3 at s3 g3 ⊢
    have f3:=(f1.same (s2'.trans s3)).app (f2.same s3)
    have s03:=s1.trans (s2'.trans s3)
    walk_at "w"
    refine ⟨_,_,_,rfl,s03 _ _ h0,rfl,?_⟩
    walk_at "w"
    refine ⟨x,d,rfl,dr0.same s03,?_⟩
    walk_at "w"
    refine ⟨_,d.th.length,rfl,by omega,fun H4 q4 w4 s4 hq4 g4 f4=> ?_⟩
    have l4:=f4.len
    have n4:(loneF "broken" d.th.length).length=d.th.length:=by simp [loneF]
    have l3:=f3.len
    rw [List.length_append] at l3
    refine rd_cat (SqL.of (s4 _ _ g3)) (SqL.of g4) (by rw [List.length_append];omega) fun q hq5=> ?_
    have s5:=same_new (o:=HO.lst (w1++w2++w4)) hq5
    have g5:upd H4 q (HO.lst (w1++w2++w4)) q=_:=upd_same
    generalize upd H4 q (HO.lst (w1++w2++w4))=H5 at s5 g5 ⊢
    have f5:=(f3.same (s4.trans s5)).app (f4.same s5)
    have s05:=s03.trans (s4.trans s5)
    have hq:=(s03.trans s4).free hq5
    have l5:(w1++w2++w4).length≤92:=by rw [List.length_append,List.length_append];omega
    generalize w1++w2++w4=w5 at g5 f5 l5
    clear f1 f2 f3 f4 g1 g2 g3 g4 l1 l2 l3 l4 n1 n2 n4 s1 s2' s3 s4 s5 hq1 hq2 hq3 hq4 hq5
    walk_at "w"
    refine tyL (SqL.of g5) ?_
    walk_at "w"
    refine ⟨_,_,_,_,_,rfl,s05 _ _ h0,T.kd_Draft.cl,T.na_Draft_ties,rfl,?_⟩
    walk_at "w"
    obtain ⟨m2,a2,vs2,em2,ev2,ha2,hl2,hb2,el2⟩:=tup_of h2
    cases em2
    rw [List.length_map] at hl2
    subst ev2
    refine ⟨_,true,a2,d.ti,rfl,(ls_tt h2 lti).same s05,by omega,fun H6 q6 w6 s6 hq6 g6 f6=> ?_⟩
    walk_at "w"
    have l6:w6.length≤272:=by
      have:=shF_len (z:="loose") (xss:=d.ti) (fun i hi=>lti _ (getD_mem hi)) d.ti.length (Nat.le_refl _)
      rw [f6.len]
      omega
    refine rd_ext (s6 _ _ g5) g6 (by omega) ?_
    obtain ⟨s07,g7,f7⟩:=ext_ok (p:=q6) s05 hq g5 f5 s6 f6
    generalize upd H6 q (HO.lst (w5++w6))=H7 at s07 g7 f7 ⊢
    have l7:(w5++w6).length≤364:=by rw [List.length_append];omega
    generalize w5++w6=w7 at g7 f7 l7
    clear f5 f6 g5 g6 l5 l6 s6 s05
    walk_at "w"
    refine tyL (SqL.of g7) ?_
    walk_at "w"
    refine ⟨_,_,_,_,_,rfl,s07 _ _ h0,T.kd_Draft.cl,T.na_Draft_ties,rfl,?_⟩
    walk_at "w"
    refine ⟨a2,rfl,⟨_,SqT.of (s07 _ _ ha2)⟩,fun D8 hD8=> ?_⟩
    refine comp_map (m:=1) (G:=fun i=>dL (butN 1 d.sh (d.ti.getD i []))) (src_tup (SqT.of (s07 _ _ ha2)) rfl) hD8 (by omega) ?_ ?_
    · intro i H' R hi s kk
      have hi':i<d.ti.length:=by omega
      have r:=el2 i (by simpa using hi')
      rw [getD_map dT d.ti i .non [] hi'] at r
      obtain ⟨b,eb,hb3,hb4⟩:=dT_of r
      rw [eb]
      walk_at "w"
      exact ⟨true,b,_,1,d.sh,rfl,SqT.of (s _ _ (s07 _ _ hb3)),Nat.le_refl _,s2,fun H3 p s3 hp h3=>kk H3 _ s3 (rp_L h3 hp (by have:=but_len 1 d.sh (d.ti.getD i []);omega))⟩
    intro H8 ys8 s8 hl8 r8
    have e8:(List.range vs2.length).map (fun i=>dL (butN 1 d.sh (d.ti.getD i [])))=(d.ti.map (butN 1 d.sh)).map dL:=by
      rw [hl2,List.map_map]
      exact map_range_getD (fun xs=>dL (butN 1 d.sh xs)) d.ti []
    rw [e8] at r8
    walk_at "w"
    refine ⟨_,false,D8,_,rfl,ls_rp r8 (fun xs hx=> ?_),by rw [List.length_map];omega,fun H9 q9 w9 s9 hq9 g9 f9=> ?_⟩
    · obtain ⟨ys,_,rfl⟩:=List.mem_map.mp hx
      have:=but_len 1 d.sh ys
      omega
    rw [List.length_map] at f9
    walk_at "w"
    have l9:w9.length≤272:=by
      have:=shF_len (z:="tied") (xss:=d.ti.map (butN 1 d.sh)) (fun i hi=>by
        obtain ⟨ys,_,e⟩:=List.mem_map.mp (getD_mem (y:=[]) hi)
        rw [← e]
        have:=but_len 1 d.sh ys
        omega) d.ti.length (by simp)
      rw [f9.len]
      omega
    refine rd_ext (s9 _ _ (s8 _ _ g7)) g9 (by omega) ?_
    obtain ⟨s0A,gA,fA⟩:=ext_ok (p:=q9) s07 hq g7 f7 (s8.trans s9) f9
    generalize upd H9 q (HO.lst (w7++w9))=HA at s0A gA fA ⊢
    have lA:(w7++w9).length≤636:=by rw [List.length_append];omega
    generalize w7++w9=wA at gA fA lA
    clear f7 f9 g7 g9 l7 l9 s8 s9 s07
    walk_at "w"
    refine tyL (SqL.of gA) ?_
    walk_at "w"
    refine ⟨_,_,_,_,_,rfl,s0A _ _ h0,T.kd_Draft.cl,T.na_Draft_threading,rfl,?_⟩
    walk_at "w"
    refine ⟨a1,rfl,⟨_,SqT.of (s0A _ _ e1)⟩,fun DB hDB=> ?_⟩
    refine comp_map (m:=1) (G:=fun i=>dL (butN 0 d.sh [d.th.getD i 0])) (src_tup (SqT.of (s0A _ _ e1)) rfl) hDB (by rw [List.length_map];omega) ?_ ?_
    · intro i H' R hi s kk
      rw [getD_nat hi]
      walk_at "w"
      intro t ht
      walk_at "w"
      have st:=same_new (o:=HO.lst [nV (d.th.getD i 0)]) ht
      have gt:upd H' t (HO.lst [nV (d.th.getD i 0)]) t=some (.lst ([d.th.getD i 0].map nV)):=upd_same
      generalize upd H' t (HO.lst [nV (d.th.getD i 0)])=Ht at st gt ⊢
      exact ⟨false,t,[d.th.getD i 0],0,d.sh,rfl,SqL.of gt,by decide,s2,fun H3 p s3 hp h3=>kk H3 _ (st.trans s3) (rp_L h3 (st.free hp) (by have:=but_len 0 d.sh [d.th.getD i 0];omega))⟩
    intro HB ysB sB hlB rB
    have eB:(List.range (d.th.map nV).length).map (fun i=>dL (butN 0 d.sh [d.th.getD i 0]))=(d.th.map fun k=>butN 0 d.sh [k]).map dL:=by
      rw [List.length_map,List.map_map]
      exact map_range_getD (fun k=>dL (butN 0 d.sh [k])) d.th 0
    rw [eB] at rB
    walk_at "w"
    refine ⟨_,false,DB,_,rfl,ls_rp rB (fun xs hx=> ?_),by rw [List.length_map];omega,fun HC qC wC sC hqC gC fC=> ?_⟩
    · obtain ⟨ys,_,rfl⟩:=List.mem_map.mp hx
      have:=but_len 0 d.sh [ys]
      omega
    rw [List.length_map] at fC
    walk_at "w"
    have lC:wC.length≤1020:=by
      have:=shF_len (z:="drawn") (xss:=d.th.map fun k=>butN 0 d.sh [k]) (fun i hi=>by
        obtain ⟨ys,_,e⟩:=List.mem_map.mp (getD_mem (y:=[]) hi)
        rw [← e]
        have:=but_len 0 d.sh [ys]
        omega) d.th.length (by simp)
      rw [fC.len]
      omega
    refine rd_ext (sC _ _ (sB _ _ gA)) gC (by omega) ?_
    obtain ⟨s0D,gD,fD⟩:=ext_ok (p:=qC) s0A hq gA fA (sB.trans sC) fC
    generalize upd HC q (HO.lst (wA++wC))=HD at s0D gD fD ⊢
    walk_at "w"
    exact k HD q _ s0D hq gD fD (by rw [List.length_append];omega)
end
end K31
open L2
namespace K31
open PySem L2 PySem.Spec PyProof.Rows
seal L2.PE L2.PT L2.PW L2.PA L2.PS L2.PSs L2.PI L2.PG L2.PTs L2.PGs
section
variable {P:Program} {w:World} {K:PySem.W.Frag} {mg:Str→Option Value} {base:Heap} {c:Cs}
noncomputable def dI (z:Str) (ks:List Int):Dt:= .tup (.str z::ks.map Dt.int)
inductive IsF (K:PySem.W.Frag) (H:Hp) (d:Dr):V→Bool→Prop
  | kind {v:V} {t:Value} (ty:TyOf K H v t) (h:PySem.W.kitOne K t (.type "tuple")=some false):IsF K H d v false
  | first {t:Addr} {w:V} {ws:List V} {ty:Value} (ht:H t=some (.tup (w::ws))) (t1:TyOf K H w ty) (h:PySem.W.kitOne K ty (.type "str")=some false):IsF K H d (.ref t) false
  | rest {t:Addr} {z:Str} {ws:List V} (ht:H t=some (.tup (.str z::ws))) (l:ws.length≤100) (ty:∀ w∈ws,Ty K H w) (h:ws.all isIntV=false):IsF K H d (.ref t) false
  | all {t:Addr} {z:Str} {ks:List Int} (ht:H t=some (.tup (.str z::ks.map V.int))) (l:ks.length≤100):IsF K H d (.ref t) (inX (.d (dI z ks)) ((allF d).map dF))
theorem FsAt.item {H:Hp} {vs:List V} {fs:List Ft} (h:FsAt H vs fs):vs.length=(fs.map dF).length∧∀ (i:Nat) (v:V) (d:Dt),vs[i]?=some v→(fs.map dF)[i]?=some d→Rp H FT 1 v d:=by
  refine ⟨by rw [List.length_map,h.len],fun i v d h1 h2=> ?_⟩
  rw [List.getElem?_map] at h2
  cases hf:fs[i]? with
  | none=>rw [hf] at h2;cases h2
  | some g=>
    rw [hf] at h2
    cases h2
    obtain ⟨a,rfl,ha,hl⟩:=h.el i v g h1 hf
    exact rp_F ha hl
noncomputable def sp__law_made (c:Cs):Sp:=fun vs H Q _=>∃ v d,vs=[v]∧Rp H FT 3 v (dDr d)∧DrOk d∧∀ H' x,Same H H'→H x=none→DrAt c.Draft H' x d→Q (.ref x) H'
noncomputable abbrev s__law_made:Stmt:=top 60
theorem sc__law_made:FnScope ["_law_told"] ["_law_told"] (defScope s__law_made):=⟨rfl,rfl,rfl,by decide +kernel,rfl,by decide +kernel,by decide +kernel⟩
theorem ok__law_made {f:Addr} {fd:FuncData} (F:Fun K "_law_made" "_law_made" s__law_made f fd) (T:Txt K mg c) (m_Draft:MakeF P w K mg base "Draft" c.Draft 6 ["self","shafts","treadles","threading","ties","treading","warp","weft"] (sp_Draft___init__ c)):FnOk P w K mg base CX0 8 f fd ["_law_told"] (sp__law_made c):=by
  refine F.ok sc__law_made (fun vs H Q E h=> ?_) (fun cdv A outer s H vs Q E hr h=> ?_)
  · obtain ⟨v,d,rfl,_⟩:=h
    rfl
  · obtain ⟨v,d,rfl,rv,ok,k⟩:=h
    obtain ⟨m,a,v0,v1,v2,v3,v4,v5,v6,em,rfl,ha,q0,q1,q2,q3,q4,q5,q6⟩:=tup7_of rv
    cases em
    cases q0
    cases q1
    obtain ⟨b2,rfl,e2,_,_⟩:=dL_of q2
    obtain ⟨b5,rfl,e5,_,_⟩:=dS_of q5
    obtain ⟨b6,rfl,e6,_,_⟩:=dS_of q6
    refine ⟨_,(pss_one (ps_ret (pe_makeF m_Draft hr (pa_cons (pe_ix (k_ixt (K:=K)) (pv 0) pe_int (fun _ _=>rfl)) (pa_cons (pe_ix (k_ixt (K:=K)) (pv 0) pe_int (fun _ _=>rfl)) (pa_cons (pe_ix (k_ixt (K:=K)) (pv 0) pe_int (fun _ _=>rfl)) (pa_cons (pe_ix (k_ixt (K:=K)) (pv 0) pe_int (fun _ _=>rfl)) (pa_cons (pe_ix (k_ixt (K:=K)) (pv 0) pe_int (fun _ _=>rfl)) (pa_cons (pe_ix (k_ixt (K:=K)) (pv 0) pe_int (fun _ _=>rfl)) (pa_cons (pe_ix (k_ixt (K:=K)) (pv 0) pe_int (fun _ _=>rfl)) pa_nil)))))))))),?_⟩
    walk_at "w"
    refine rd_ixT (SqT.of ha) (atI_nat (j:=0) rfl) ?_
    walk_at "w"
    refine rd_ixT (SqT.of ha) (atI_nat (j:=1) rfl) ?_
    walk_at "w"
    refine rd_ixT (SqT.of ha) (atI_nat (j:=2) rfl) ?_
    walk_at "w"
    refine rd_ixT (SqT.of ha) (atI_nat (j:=3) rfl) ?_
    walk_at "w"
    refine rd_ixT (SqT.of ha) (atI_nat (j:=4) rfl) ?_
    walk_at "w"
    refine rd_ixT (SqT.of ha) (atI_nat (j:=5) rfl) ?_
    walk_at "w"
    refine rd_ixT (SqT.of ha) (atI_nat (j:=6) rfl) ?_
    walk_at "w"
    exact dr_make ⟨_,_,_,_,_,rfl,e2,q3.any,q4.any,e5,e6⟩ ok fun H2 x s2 hx D2=>k H2 x s2 hx D2
end
end K31
open L2
namespace K31
open PySem L2 PySem.Spec PyProof.Rows
seal L2.PE L2.PT L2.PW L2.PA L2.PS L2.PSs L2.PI L2.PG L2.PTs L2.PGs
section
variable {P:Program} {w:World} {K:PySem.W.Frag} {mg:Str→Option Value} {base:Heap} {c:Cs}
theorem sorted_ext:∀ {xs ys:List Nat},xs.Pairwise (· < ·)→ys.Pairwise (· < ·)→(∀ a,a∈xs↔a∈ys)→xs=ys
  | [],[],_,_,_=>rfl
  | [],y::ys,_,_,h=>by have:=(h y).mpr (List.mem_cons_self ..);cases this
  | x::xs,[],_,_,h=>by have:=(h x).mp (List.mem_cons_self ..);cases this
  | x::xs,y::ys,hx,hy,h=>by
    have px:=List.pairwise_cons.mp hx
    have py:=List.pairwise_cons.mp hy
    have e:x=y:=by
      have h1:=List.mem_cons.mp ((h x).mp (List.mem_cons_self ..))
      have h2:=List.mem_cons.mp ((h y).mpr (List.mem_cons_self ..))
      rcases h1 with h1 | h1
      · exact h1
      · rcases h2 with h2 | h2
        · exact h2.symm
        · have:=py.1 x h1
          have:=px.1 y h2
          omega
    subst e
    rw [sorted_ext px.2 py.2 fun a=> ?_]
    constructor
    · intro ha
      rcases List.mem_cons.mp ((h a).mp (List.mem_cons_of_mem _ ha)) with e | e
      · have:=px.1 a ha
        omega
      · exact e
    · intro ha
      rcases List.mem_cons.mp ((h a).mpr (List.mem_cons_of_mem _ ha)) with e | e
      · have:=py.1 a ha
        omega
      · exact e
theorem rise_lt {sh:Nat} {xs:List Nat} (r:Rise sh xs):∀ j i,i<j→j<xs.length→xs.getD i 0<xs.getD j 0
  | 0,i,h,_=>by omega
  | j+1,i,h,hj=>by
    have h1:=(r (j+1) hj).1
    have e:(0::xs).getD (j+1) 0=xs.getD j 0:=rfl
    rw [e] at h1
    rcases Nat.lt_or_ge i j with z | z
    · have:=rise_lt r j i z (by omega)
      omega
    · have:i=j:=by omega
      subst this
      omega
theorem rise_pw {sh:Nat} {xs:List Nat} (r:Rise sh xs):xs.Pairwise (· < ·):=by
  rw [List.pairwise_iff_getElem]
  intro i j hi hj h
  have:=rise_lt r j i h hj
  rw [getD_el hi,getD_el hj] at this
  exact this
theorem range1_pw (n:Nat):((List.range n).map (1+ ·)).Pairwise (· < ·):=List.Pairwise.map _ (fun a b h=>by omega) List.pairwise_lt_range
theorem rise_eq {sh:Nat} {xs:List Nat} (r:Rise sh xs):((List.range sh).map (1+ ·)).filter (fun s=>decide (s∈xs))=xs:=by
  refine sorted_ext ((range1_pw sh).filter _) (rise_pw r) fun a=> ?_
  rw [List.mem_filter,decide_eq_true_eq]
  refine ⟨fun h=>h.2,fun h=>⟨?_,h⟩⟩
  obtain ⟨i,hi,rfl⟩:=List.getElem_of_mem h
  have h1:=(r i hi).2
  have h2:=rise_ge r i hi
  rw [getD_el hi] at h1 h2
  exact List.mem_map.mpr ⟨xs[i] - 1,List.mem_range.mpr (by omega),by omega⟩
noncomputable def prF (z:Str) (sh:Nat) (p:Nat→Nat→Bool) (m:Nat):List Ft:=((List.range m).filter fun k=>p (k / sh) (1+k%sh)).map fun k=>(z,[1+k / sh,1+k%sh])
theorem prF_step (z:Str) {sh:Nat} (h:1≤sh) (p:Nat→Nat→Bool) (i:Nat):prF z sh p ((i+1)*sh)=prF z sh p (i*sh)++(((List.range sh).map (1+ ·)).filter fun s=>p i s).map fun s=>(z,[i+1,s]):=by
  unfold prF
  rw [Nat.succ_mul,List.range_add,List.filter_append,List.map_append,List.filter_map,List.filter_map,List.map_map,List.map_map]
  congr 1
  have hd:∀ j,j<sh→(i*sh+j) / sh=i∧(i*sh+j)%sh=j:=fun j hj=>by
    rw [Nat.mul_comm i sh]
    exact ⟨by rw [Nat.mul_add_div h,Nat.div_eq_of_lt hj,Nat.add_zero],by rw [Nat.mul_add_mod,Nat.mod_eq_of_lt hj]⟩
  have e1:(List.range sh).filter ((fun k=>p (k / sh) (1+k%sh))∘fun x=>i*sh+x)=(List.range sh).filter ((fun s=>p i s)∘fun x=>1+x):=by
    refine List.filter_congr fun j hj=> ?_
    have:=hd j (List.mem_range.mp hj)
    show p ((i*sh+j) / sh) (1+(i*sh+j)%sh)=p i (1+j)
    rw [this.1,this.2]
  rw [e1]
  refine List.map_congr_left fun j hj=> ?_
  have:=hd j (List.mem_range.mp (List.mem_filter.mp hj).1)
  show (z,[1+(i*sh+j) / sh,1+(i*sh+j)%sh])=(z,[i+1,1+j])
  rw [this.1,this.2,Nat.add_comm 1 i]
theorem loose_eq {d:Dr} (ok:DrOk d):∀ i,i≤d.ti.length→prF "loose" d.sh (fun t s=>decide (s∈d.ti.getD t [])) (i*d.sh)=shF "loose" d.ti i
  | 0,_=>by simp [prF,shF]
  | i+1,hi=>by
    rw [prF_step _ ok.s1,loose_eq ok i (by omega),rise_eq (ok.ir _ (getD_mem (by omega)))]
    rfl
theorem tied_eq {d:Dr} (ok:DrOk d):∀ i,i≤d.ti.length→prF "tied" d.sh (fun t s=> !decide (s∈d.ti.getD t [])) (i*d.sh)=shF "tied" (d.ti.map (butN 1 d.sh)) i
  | 0,_=>by simp [prF,shF]
  | i+1,hi=>by
    rw [prF_step _ ok.s1,tied_eq ok i (by omega)]
    show _=shF "tied" (d.ti.map (butN 1 d.sh)) i++((d.ti.map (butN 1 d.sh)).getD i []).map _
    rw [getD_map (butN 1 d.sh) d.ti i [] [] (by omega)]
    unfold butN
    rw [show d.sh+1 - 1=d.sh by omega]
noncomputable def sp__law_all_faults:Sp:=fun vs H Q _=>∃ v d,vs=[v]∧Rp H FT 3 v (dDr d)∧DrOk d∧∀ H' p ws,Same H H'→H p=none→H' p=some (.lst ws)→FsAt H' ws (allF d)→ws.length≤5000→Q (.ref p) H'
noncomputable abbrev s__law_all_faults:Stmt:=top 62
theorem sc__law_all_faults:FnScope ["_law_told","_law_shafts","_law_treadles","_law_threading","_law_ties","_law_shaft","_law_found","_law_end","_law_pairs"] ["_law_told"] (defScope s__law_all_faults):=⟨rfl,rfl,rfl,by decide +kernel,rfl,by decide +kernel,by decide +kernel⟩
theorem ok__law_all_faults {f:Addr} {fd:FuncData} (F:Fun K "_law_all_faults" "_law_all_faults" s__law_all_faults f fd) (T:Txt K mg c):FnOk P w K mg base CX0 1 f fd ["_law_told"] sp__law_all_faults:=by
  refine F.ok sc__law_all_faults (fun vs H Q E h=> ?_) (fun cdv A outer s H vs Q E hr h=> ?_)
  · obtain ⟨v,d,rfl,_⟩:=h
    rfl
  · obtain ⟨v,d,rfl,rv,ok,k⟩:=h
    obtain ⟨m,a,v0,v1,v2,v3,v4,v5,v6,em,rfl,ha,q0,q1,q2,q3,q4,q5,q6⟩:=tup7_of rv
    cases em
    cases q0
    cases q1
    obtain ⟨b2,rfl,e2,_,_⟩:=dL_of q2
    have s1:=ok.s1
    have s2:=ok.s2
    have th2:=ok.h2
    have til:=ok.il
    have t2:=ok.t2
    refine ⟨_,(pss_cons (ps_asg (pe_slice (k_slt (K:=K)) (pv 0) po_none (po_some pe_int)) (k_gtup (K:=K) rfl (pgs_cons (pg_name (i:=1) sc__law_all_faults.nd rfl (Or.inr rfl)) (pgs_cons (pg_name (i:=2) sc__law_all_faults.nd rfl (Or.inl rfl)) (pgs_cons (pg_name (i:=3) sc__law_all_faults.nd rfl (Or.inl rfl)) (pgs_cons (pg_name (i:=4) sc__law_all_faults.nd rfl (Or.inr rfl)) pgs_nil))))))
      (pss_cons (ps_set (i:=6) sc__law_all_faults.nd rfl (Or.inl rfl) (pe_op (k_cat (K:=K)) (pe_comp1 (pi_range1 rfl (T.own _ (by decide)) (pa_cons (pv 1) pa_nil)) (fun _ _ _ _=>pts_nil) (fun _ _ _ _=>(pe_tup (pa_cons pe_str (pa_cons (pe_op op_add (pv 0) pe_int) pa_nil))))) (pe_comp1 (pi_range1 rfl (T.own _ (by decide)) (pa_cons (pv 1) pa_nil)) (fun _ _ _ _=>pts_nil) (fun _ _ _ _=>(pe_tup (pa_cons pe_str (pa_cons (pe_op op_add (pv 0) pe_int) pa_nil)))))))
      (pss_cons (ps_set (i:=6) sc__law_all_faults.nd rfl (Or.inl rfl) (pe_op (k_cat (K:=K)) (pv 6) (pe_comp1 (pi_range1 rfl (T.own _ (by decide)) (pa_cons (pe_callB (k_len (K:=K)) rfl (T.own _ (by decide)) boot_len (pa_cons (pv 3) pa_nil)) pa_nil)) (fun _ _ _ _=>pts_nil) (fun _ _ _ _=>(pe_tup (pa_cons pe_str (pa_cons (pe_op op_add (pv 0) pe_int) pa_nil)))))))
      (pss_cons (ps_comp1 (i:=8) sc__law_all_faults.nd rfl (Or.inl rfl) (pi_range1 rfl (T.own _ (by decide)) (pa_cons (pe_op op_mul (pv 2) (pv 1)) pa_nil)) (fun _ _ _ _=>pts_nil) (fun _ _ _ _=>(pe_tup (pa_cons (pe_op op_add pe_int (pe_op op_fdivL (pv 0) (pv 1))) (pa_cons (pe_op op_add pe_int (pe_op op_mod (pv 0) (pv 1))) pa_nil)))))
      (pss_cons (ps_set (i:=6) sc__law_all_faults.nd rfl (Or.inl rfl) (pe_op (k_cat (K:=K)) (pv 6) (pe_comp1 (k_pil (K:=K) (pv 8)) (fun _ _ _ _=>(pts_one (pt_cmpR (k_in (K:=K)) (pe_ix (k_ixt (K:=K)) (pv 0) pe_int (fun _ _=>rfl)) (pe_ix (k_ixl (K:=K)) (pv 1) (pe_op op_sub (pe_ix (k_ixt (K:=K)) (pv 0) pe_int (fun _ _=>rfl)) pe_int) (fun _ _=>rfl)) (by with_unfolding_all rfl)))) (fun _ _ _ _=>(pe_op (k_catU (K:=K)) (pe_tup (pa_cons pe_str pa_nil)) (pv 0))))))
      (pss_cons (ps_set (i:=6) sc__law_all_faults.nd rfl (Or.inl rfl) (pe_op (k_cat (K:=K)) (pv 6) (pe_comp1 (k_pil (K:=K) (pv 8)) (fun _ _ _ _=>(pts_one (pt_cmpR (k_notin (K:=K)) (pe_ix (k_ixt (K:=K)) (pv 0) pe_int (fun _ _=>rfl)) (pe_ix (k_ixl (K:=K)) (pv 1) (pe_op op_sub (pe_ix (k_ixt (K:=K)) (pv 0) pe_int (fun _ _=>rfl)) pe_int) (fun _ _=>rfl)) (by with_unfolding_all rfl)))) (fun _ _ _ _=>(pe_op (k_catU (K:=K)) (pe_tup (pa_cons pe_str pa_nil)) (pv 0))))))
      (pss_cons (ps_for PassesOwn.never rfl (pi_enum (K:=K) rfl (T.own _ (by decide)) (pa_cons (pv 3) pa_nil)) (k_gtup (K:=K) rfl (pgs_cons (pg_name (i:=7) sc__law_all_faults.nd rfl (Or.inr rfl)) (pgs_cons (pg_name (i:=5) sc__law_all_faults.nd rfl (Or.inr rfl)) pgs_nil))) (pss_one (ps_set (i:=6) sc__law_all_faults.nd rfl (Or.inl rfl) (pe_op (k_cat (K:=K)) (pv 6) (pe_comp1 (pi_range1 rfl (T.own _ (by decide)) (pa_cons (pe_op op_add (pv 1) pe_int) pa_nil)) (fun _ _ _ _=>(pts_one (pt_cmpR op_ne (pv 0) (pv 2) (nomark _)))) (fun _ _ _ _=>(pe_tup (pa_cons pe_str (pa_cons (pe_op op_add (pv 1) pe_int) (pa_cons (pv 0) pa_nil))))))))))
      (pss_one (ps_ret (pv 6)))))))))),?_⟩
    walk_at "w"
    refine rd_slN (SqT.of ha) fun H1 p s01 hp=> ?_
    rw [cut_to (by decide)] at hp
    have hp:SqT K H1 p [nV d.sh,nV d.tr, .ref b2,v3]:=hp
    walk_at "w"
    refine rd_gtup hp rfl ?_
    walk_at "w"
    refine ⟨_,rfl,by omega,by omega,fun D2 hD2=> ?_⟩
    rw [Int.toNat_natCast]
    refine comp_map (m:=1) (G:=fun i=>dF ("up",[i+1])) (src_range0 rfl) hD2 (by omega) ?_ ?_
    · intro i H' R hi s kk
      walk_at "w"
      intro q hq
      exact kk _ _ (same_new hq) (rp_F (f:=("up",[i+1])) upd_same (by simp))
    intro H2 w2 s12 g2 r2
    have f2:FsAt H2 w2 (loneF "up" d.sh):=(fs_of (by unfold loneF;rw [List.map_map];exact r2) g2 fun f hf=>by
      obtain ⟨i,_,rfl⟩:=List.mem_map.mp hf
      simp).1
    have s02:=s01.trans s12
    walk_at "w"
    refine ⟨_,rfl,by omega,by omega,fun D3 hD3=> ?_⟩
    rw [Int.toNat_natCast]
    refine comp_map (m:=1) (G:=fun i=>dF ("down",[i+1])) (src_range0 rfl) hD3 (by omega) ?_ ?_
    · intro i H' R hi s kk
      walk_at "w"
      intro q hq
      exact kk _ _ (same_new hq) (rp_F (f:=("down",[i+1])) upd_same (by simp))
    intro H3 w3 s23 g3 r3
    have f3:FsAt H3 w3 (loneF "down" d.sh):=(fs_of (by unfold loneF;rw [List.map_map];exact r3) g3 fun f hf=>by
      obtain ⟨i,_,rfl⟩:=List.mem_map.mp hf
      simp).1
    have s03:=s02.trans s23
    have l2:=f2.len
    have l3:=f3.len
    have n2:(loneF "up" d.sh).length=d.sh:=by simp [loneF]
    have n3:(loneF "down" d.sh).length=d.sh:=by simp [loneF]
    refine rd_cat (SqL.of (s23 _ _ g2)) (SqL.of g3) (by omega) fun q4 hq4=> ?_
    have s34:=same_new (o:=HO.lst (w2++w3)) hq4
    have g4:upd H3 q4 (HO.lst (w2++w3)) q4=_:=upd_same
    generalize upd H3 q4 (HO.lst (w2++w3))=H4 at s34 g4 ⊢
    have f4:=(f2.same (s23.trans s34)).app (f3.same s34)
    have l4:(w2++w3).length≤32:=by rw [List.length_append];omega
    generalize w2++w3=w4 at g4 f4 l4
    have s04:=s03.trans s34
    walk_at "w"
    refine rd_lenL (SqL.of (s04 _ _ e2)) ?_
    rw [List.length_map]
    walk_at "w"
    refine ⟨_,rfl,by omega,by omega,fun D5 hD5=> ?_⟩
    rw [Int.toNat_natCast]
    refine comp_map (m:=1) (G:=fun i=>dF ("broken",[i+1])) (src_range0 rfl) hD5 (by omega) ?_ ?_
    · intro i H' R hi s kk
      walk_at "w"
      intro q hq
      exact kk _ _ (same_new hq) (rp_F (f:=("broken",[i+1])) upd_same (by simp))
    intro H5 w5 s45 g5 r5
    have f5:FsAt H5 w5 (loneF "broken" d.th.length):=(fs_of (by unfold loneF;rw [List.map_map];exact r5) g5 fun f hf=>by
      obtain ⟨i,_,rfl⟩:=List.mem_map.mp hf
      simp).1
    have s05:=s04.trans s45
    have l5:w5.length=d.th.length:=by rw [f5.len];simp [loneF]
    refine rd_cat (SqL.of (s45 _ _ g4)) (SqL.of g5) (by omega) fun q6 hq6=> ?_
    have s56:=same_new (o:=HO.lst (w4++w5)) hq6
    have g6:upd H5 q6 (HO.lst (w4++w5)) q6=_:=upd_same
    generalize upd H5 q6 (HO.lst (w4++w5))=H6 at s56 g6 ⊢
    have f6:=(f4.same (s45.trans s56)).app (f5.same s56)
    have l6:(w4++w5).length≤92:=by rw [List.length_append];omega
    generalize w4++w5=w6 at g6 f6 l6
    have s06:=s05.trans s56
    clear f2 f3 f4 f5 g2 g3 g4 g5 l2 l3 l4 l5 n2 n3 r2 r3 r5
    walk_at "w"
    refine rd_rI (.inl ⟨by omega,by omega⟩) ?_
    have hm:((d.tr:Nat):Int)*((d.sh:Nat):Int)=((d.tr*d.sh:Nat):Int):=by push_cast;rfl
    have hmul:d.tr*d.sh≤256:=Nat.mul_le_mul t2 s2
    rw [hm]
    walk_at "w"
    refine ⟨_,rfl,by omega,by omega,fun D7 hD7=> ?_⟩
    rw [Int.toNat_natCast]
    refine comp_map (m:=1) (G:=fun i=>dT [1+i / d.sh,1+i%d.sh]) (src_range0 rfl) hD7 (by omega) ?_ ?_
    · intro i H' R hi s kk
      walk_at "w"
      refine rd_rI ⟨by omega,by omega⟩ ?_
      walk_at "w"
      refine rd_rI (by omega) ?_
      walk_at "w"
      intro q hq
      have c1:(1:Int)+(i:Nat) / (d.sh:Nat)=((1+i / d.sh:Nat):Int):=by push_cast;rfl
      have c2:(1:Int)+(i:Nat)%(d.sh:Nat)=((1+i%d.sh:Nat):Int):=by push_cast;rfl
      rw [c1,c2]
      exact kk _ _ (same_new hq) (rp_T (ns:=[1+i / d.sh,1+i%d.sh]) upd_same (by simp))
    intro H7 w7 s67 g7 r7
    have s07:=s06.trans s67
    obtain ⟨m7,a7,vs7,em7,ea7,ha7,hf7,hl7,hb7,el7⟩:=lst_of r7
    cases em7
    cases ea7
    rw [g7] at ha7
    cases ha7
    rw [List.length_map,List.length_range] at hl7
    have pr:∀ i,i<w7.length→∃ b,w7.getD i .non= .ref b∧H7 b=some (.tup [nV (1+i / d.sh),nV (1+i%d.sh)]):=fun i hi=>by
      have r1:=el7 i (by simp;omega)
      rw [getD_rmap (fun i=>dT [1+i / d.sh,1+i%d.sh]) (by omega)] at r1
      obtain ⟨b,eb,hb,_⟩:=dT_of r1
      exact ⟨b,eb,hb⟩
    obtain ⟨m3,a3,vs3,em3,ea3,ha3,hf3,hl3,hb3,el3⟩:=lst_of q3
    cases em3
    subst ea3
    rw [List.length_map] at hl3
    have ti:∀ j,j<d.ti.length→∃ b,vs3.getD j .non= .ref b∧H b=some (.lst ((d.ti.getD j []).map nV)):=fun j hj=>by
      have r1:=el3 j (by simpa using hj)
      rw [getD_map dL d.ti j .non [] hj] at r1
      obtain ⟨b,eb,hb,_,_⟩:=dL_of r1
      exact ⟨b,eb,hb⟩
    have hdiv:∀ i,i<d.tr*d.sh→i / d.sh<d.ti.length:=fun i hi=>by
      rw [til,Nat.div_lt_iff_lt_mul s1]
      exact hi
    walk_at "w"
    refine ⟨D7,rfl,⟨_,SqL.of g7⟩,fun D8 hD8=> ?_⟩
    refine comp_data (m:=1) (p:=fun i=>decide (1+i%d.sh∈d.ti.getD (i / d.sh) [])) (G:=fun i=>dF ("loose",[1+i / d.sh,1+i%d.sh])) (src_list (SqL.of g7) rfl) hD8 (by omega) ?_ ?_ ?_
    · intro i H' R hi s kk
      obtain ⟨b,eb,hb⟩:=pr i hi
      obtain ⟨bt,et,ht⟩:=ti _ (hdiv i (by omega))
      rw [eb]
      walk_at "w"
      refine rd_ixT (v:=nV (1+i%d.sh)) (SqT.of (s _ _ hb)) (atI_nat (j:=1) rfl) ?_
      walk_at "w"
      refine rd_ixT (v:=nV (1+i / d.sh)) (SqT.of (s _ _ hb)) (atI_nat (j:=0) rfl) ?_
      walk_at "w"
      refine rd_ixL (SqL.of (s _ _ (s07 _ _ ha3))) (atI_get' (j:=i / d.sh) (by omega) (by have:=hdiv i (by omega);omega)) ?_
      rw [et]
      refine rd_inN (tp:=false) (SqL.of (s _ _ (s07 _ _ ht))) ?_
      exact ⟨_,rfl,kk H' (Same.refl _)⟩
    · intro i H' R hi hp s kk
      obtain ⟨b,eb,hb⟩:=pr i hi
      rw [eb]
      walk_at "w"
      intro q hq
      have sq:=same_new (o:=HO.tup [V.str "loose"]) hq
      have gq:upd H' q (HO.tup [V.str "loose"]) q=_:=upd_same
      generalize upd H' q (HO.tup [V.str "loose"])=Hq at sq gq ⊢
      walk_at "w"
      refine rd_catU (SqT.of gq) (SqT.of (sq _ _ (s _ _ hb))) (by simp) (by simp) (by simp) fun t ht=> ?_
      exact kk _ _ (sq.trans (same_new ht)) (rp_F (f:=("loose",[1+i / d.sh,1+i%d.sh])) upd_same (by simp))
    intro H8 w8 s78 g8 r8
    have lti:∀ xs∈d.ti,xs.length≤17:=fun xs hx=>by have:=rise_len (ok.ir xs hx);omega
    have f8:FsAt H8 w8 (shF "loose" d.ti d.ti.length):=by
      rw [hl7] at r8
      have e:((List.range (d.tr*d.sh)).filter fun i=>decide (1+i%d.sh∈d.ti.getD (i / d.sh) [])).map (fun i=>dF ("loose",[1+i / d.sh,1+i%d.sh]))=(shF "loose" d.ti d.ti.length).map dF:=by
        rw [← loose_eq ok d.ti.length (Nat.le_refl _),til]
        unfold prF
        rw [List.map_map]
        rfl
      rw [e] at r8
      refine (fs_of r8 g8 fun f hf=> ?_).1
      rw [← loose_eq ok d.ti.length (Nat.le_refl _)] at hf
      obtain ⟨i,_,rfl⟩:=List.mem_map.mp hf
      simp
    have l8:w8.length≤272:=by
      have:=shF_len (z:="loose") (xss:=d.ti) (fun i hi=>lti _ (getD_mem hi)) d.ti.length (Nat.le_refl _)
      rw [f8.len]
      omega
    walk_at "w"
    refine rd_cat (SqL.of (s78 _ _ (s67 _ _ g6))) (SqL.of g8) (by omega) fun q9 hq9=> ?_
    have s89:=same_new (o:=HO.lst (w6++w8)) hq9
    have g9:upd H8 q9 (HO.lst (w6++w8)) q9=_:=upd_same
    generalize upd H8 q9 (HO.lst (w6++w8))=H9 at s89 g9 ⊢
    have f9:=(f6.same (s67.trans (s78.trans s89))).app (f8.same s89)
    have l9:(w6++w8).length≤364:=by rw [List.length_append];omega
    generalize w6++w8=w9 at g9 f9 l9
    have s79:=s78.trans s89
    have s09:=s07.trans s79
    clear f6 f8 g6 g8 l6 l8 r8
    walk_at "w"
    have g79:=s79 _ _ g7
    refine ⟨D7,rfl,⟨_,SqL.of g79⟩,fun DA hDA=> ?_⟩
    refine comp_data (m:=1) (p:=fun i=> !decide (1+i%d.sh∈d.ti.getD (i / d.sh) [])) (G:=fun i=>dF ("tied",[1+i / d.sh,1+i%d.sh])) (src_list (SqL.of g79) rfl) hDA (by omega) ?_ ?_ ?_
    · intro i H' R hi s kk
      obtain ⟨b,eb,hb⟩:=pr i hi
      obtain ⟨bt,et,ht⟩:=ti _ (hdiv i (by omega))
      rw [eb]
      walk_at "w"
      refine rd_ixT (v:=nV (1+i%d.sh)) (SqT.of (s _ _ (s79 _ _ hb))) (atI_nat (j:=1) rfl) ?_
      walk_at "w"
      refine rd_ixT (v:=nV (1+i / d.sh)) (SqT.of (s _ _ (s79 _ _ hb))) (atI_nat (j:=0) rfl) ?_
      walk_at "w"
      refine rd_ixL (SqL.of (s _ _ (s09 _ _ ha3))) (atI_get' (j:=i / d.sh) (by omega) (by have:=hdiv i (by omega);omega)) ?_
      rw [et]
      refine rd_notinN (tp:=false) (SqL.of (s _ _ (s09 _ _ ht))) ?_
      exact ⟨_,rfl,kk H' (Same.refl _)⟩
    · intro i H' R hi hp s kk
      obtain ⟨b,eb,hb⟩:=pr i hi
      rw [eb]
      walk_at "w"
      intro q hq
      have sq:=same_new (o:=HO.tup [V.str "tied"]) hq
      have gq:upd H' q (HO.tup [V.str "tied"]) q=_:=upd_same
      generalize upd H' q (HO.tup [V.str "tied"])=Hq at sq gq ⊢
      walk_at "w"
      refine rd_catU (SqT.of gq) (SqT.of (sq _ _ (s _ _ (s79 _ _ hb)))) (by simp) (by simp) (by simp) fun t ht=> ?_
      exact kk _ _ (sq.trans (same_new ht)) (rp_F (f:=("tied",[1+i / d.sh,1+i%d.sh])) upd_same (by simp))
    intro HA wA s9A gA rA
    have fA:FsAt HA wA (shF "tied" (d.ti.map (butN 1 d.sh)) d.ti.length):=by
      rw [hl7] at rA
      have e:((List.range (d.tr*d.sh)).filter fun i=> !decide (1+i%d.sh∈d.ti.getD (i / d.sh) [])).map (fun i=>dF ("tied",[1+i / d.sh,1+i%d.sh]))=(shF "tied" (d.ti.map (butN 1 d.sh)) d.ti.length).map dF:=by
        rw [← tied_eq ok d.ti.length (Nat.le_refl _),til]
        unfold prF
        rw [List.map_map]
        rfl
      rw [e] at rA
      refine (fs_of rA gA fun f hf=> ?_).1
      rw [← tied_eq ok d.ti.length (Nat.le_refl _)] at hf
      obtain ⟨i,_,rfl⟩:=List.mem_map.mp hf
      simp
    have lA:wA.length≤272:=by
      have:=shF_len (z:="tied") (xss:=d.ti.map (butN 1 d.sh)) (fun i hi=>by
        obtain ⟨ys,_,e⟩:=List.mem_map.mp (getD_mem (y:=[]) hi)
        rw [← e]
        have:=but_len 1 d.sh ys
        omega) d.ti.length (by simp)
      rw [fA.len]
      omega
    walk_at "w"
    refine rd_cat (SqL.of (s9A _ _ g9)) (SqL.of gA) (by omega) fun qB hqB=> ?_
    have sAB:=same_new (o:=HO.lst (w9++wA)) hqB
    have gB:upd HA qB (HO.lst (w9++wA)) qB=_:=upd_same
    generalize upd HA qB (HO.lst (w9++wA))=HB at sAB gB ⊢
    have fB:=(f9.same (s9A.trans sAB)).app (fA.same sAB)
    have lB:(w9++wA).length≤636:=by rw [List.length_append];omega
    generalize w9++wA=wB at gB fB lB
    have s0B:=s09.trans (s9A.trans sAB)
    have hqB0:=(s09.trans s9A).free hqB
    clear f9 fA g9 gA lA l9 rA
    walk_at "w"
    have e2B:=s0B _ _ e2
    generalize eb:loneF "up" d.sh++loneF "down" d.sh++loneF "broken" d.th.length++shF "loose" d.ti d.ti.length++shF "tied" (d.ti.map (butN 1 d.sh)) d.ti.length=bs at fB
    refine ⟨b2,rfl,⟨_,SqL.of e2B⟩,for_src (fs_enum (SqL.of e2B)) (fun i σ H3=>∃ q ws y z u,σ=[some (.ref a),some (nV d.sh),some (nV d.tr),some (.ref b2),some (.ref a3),y,some (.ref q),z,u]∧Same HB H3∧H q=none∧H3 q=some (.lst ws)∧FsAt H3 ws (bs++shF "drawn" (d.th.map fun k=>butN 0 d.sh [k]) i)∧ws.length≤636+17*i)
      ⟨_,_,_,_,_,rfl,Same.refl _,hqB0,gB,by simpa [shF] using fB,by omega⟩ (fun i σ H3 ⟨_,_,_,_,_,_,s,_⟩=>s) ?_ ?_⟩
    · rintro i σ H' H3 hi ⟨q,ws,y,z,u,rfl,s',hq0,hw,fw,lw⟩ s3
      have hi':i<d.th.length:=by simpa using hi
      have sH:=s'.trans s3
      rw [getD_nat hi]
      walk_at "w"
      refine ⟨_,rfl,by omega,by omega,fun DC hDC=> ?_⟩
      rw [show (((d.sh:Nat):Int)+1).toNat=d.sh+1 by omega]
      refine comp_data (m:=1) (p:=fun o=> !decide (o∈[d.th.getD i 0])) (G:=fun o=>dF ("drawn",[i+1,o])) (src_range0 rfl) hDC (by omega) ?_ ?_ ?_
      · intro o H4 R ho s4 kk
        walk_at "w"
        have e:(!decide (((o:Nat):Int)=((d.th.getD i 0:Nat):Int)))= !decide (o∈[d.th.getD i 0]):=by
          congr 1
          rw [decide_eq_decide,List.mem_singleton]
          omega
        rw [e]
        first | exact ⟨_,rfl,kk H4 (Same.refl _)⟩ | exact kk H4 (Same.refl _)
      · intro o H4 R ho hp s4 kk
        walk_at "w"
        intro t ht
        exact kk _ _ (same_new ht) (rp_F (f:=("drawn",[i+1,o])) upd_same (by simp))
      intro HC wC s3C gC rC
      have e:((List.range (d.sh+1)).filter fun o=> !decide (o∈[d.th.getD i 0])).map (fun o=>dF ("drawn",[i+1,o]))=(((d.th.map fun k=>butN 0 d.sh [k]).getD i []).map fun s=>(("drawn",[i+1,s]):Ft)).map dF:=by
        rw [getD_map (fun k=>butN 0 d.sh [k]) d.th i [] 0 hi']
        unfold butN
        rw [List.map_map,show ((List.range (d.sh+1 - 0)).map fun x=>0+x)=List.range (d.sh+1) by simp]
        rfl
      rw [e] at rC
      have fC:=(fs_of rC gC fun f hf=>by
        obtain ⟨i,_,rfl⟩:=List.mem_map.mp hf
        simp).1
      have lC:wC.length≤17:=by
        rw [fC.len,List.length_map,getD_map (fun k=>butN 0 d.sh [k]) d.th i [] 0 hi']
        have:=but_len 0 d.sh [d.th.getD i 0]
        omega
      walk_at "w"
      refine rd_cat (SqL.of (s3C _ _ (s3 _ _ hw))) (SqL.of gC) (by omega) fun qD hqD=> ?_
      have sCD:=same_new (o:=HO.lst (ws++wC)) hqD
      have gD:upd HC qD (HO.lst (ws++wC)) qD=_:=upd_same
      generalize upd HC qD (HO.lst (ws++wC))=HD at sCD gD ⊢
      have fD:=(fw.same (s3.trans (s3C.trans sCD))).app (fC.same sCD)
      walk_at "w"
      refine ⟨_,_,_,_,_,rfl,sH.trans (s3C.trans sCD),(s0B.trans (sH.trans s3C)).free hqD,gD,?_,by rw [List.length_append];omega⟩
      rw [List.append_assoc] at fD
      exact fD
    · rintro σ H3 ⟨q,ws,y,z,u,rfl,s3,hq0,hw,fw,lw⟩
      walk_at "w"
      rw [List.length_map] at fw lw
      subst eb
      exact k H3 q ws (s0B.trans s3) hq0 hw fw (by omega)
end
end K31
open L2
namespace K31
open PySem L2 PySem.Spec PyProof.Rows
seal L2.PE L2.PT L2.PW L2.PA L2.PS L2.PSs L2.PI L2.PG L2.PTs L2.PGs
section
variable {P:Program} {w:World} {K:PySem.W.Frag} {mg:Str→Option Value} {base:Heap} {c:Cs}
inductive FK (d:Dr):Ft→Prop
  | up {s:Nat}:1≤s→s≤d.sh→FK d ("up",[s])
  | down {s:Nat}:1≤s→s≤d.sh→FK d ("down",[s])
  | broken {e:Nat}:1≤e→e≤d.th.length→FK d ("broken",[e])
  | loose {t s:Nat}:1≤t→t≤d.ti.length→1≤s→s≤d.sh→s∈d.ti.getD (t - 1) []→FK d ("loose",[t,s])
  | tied {t s:Nat}:1≤t→t≤d.ti.length→1≤s→s≤d.sh→s∉d.ti.getD (t - 1) []→FK d ("tied",[t,s])
  | drawn {e s:Nat}:1≤e→e≤d.th.length→s≤d.sh→FK d ("drawn",[e,s])
theorem shF_mem {z:Str} {xss:List (List Nat)} {f:Ft}:∀ {i:Nat},f∈shF z xss i→∃ j,j<i∧∃ s,s∈xss.getD j []∧f=(z,[j+1,s])
  | 0,h=>by cases h
  | i+1,h=>by
    rcases List.mem_append.mp h with h | h
    · obtain ⟨j,hj,r⟩:=shF_mem h
      exact ⟨j,by omega,r⟩
    · obtain ⟨s,hs,rfl⟩:=List.mem_map.mp h
      exact ⟨i,by omega,s,hs,rfl⟩
theorem lone_mem {z:Str} {m:Nat} {f:Ft} (h:f∈loneF z m):∃ j,j<m∧f=(z,[j+1]):=by
  obtain ⟨j,hj,rfl⟩:=List.mem_map.mp h
  exact ⟨j,List.mem_range.mp hj,rfl⟩
theorem but_mem {lo hi s:Nat} {ns:List Nat} (h:s∈butN lo hi ns):lo≤s∧s≤hi∧s∉ns:=by
  obtain ⟨h1,h2⟩:=List.mem_filter.mp h
  obtain ⟨j,hj,rfl⟩:=List.mem_map.mp h1
  have:=List.mem_range.mp hj
  exact ⟨by omega,by omega,by simpa using h2⟩
theorem getD_mapL {α:Type} {l:List α} {g:α→List Nat} {j:Nat} {a:α} (h:j<l.length):(l.map g).getD j []=g (l.getD j a):=by
  rw [List.getD_eq_getElem?_getD,List.getElem?_map,List.getElem?_eq_getElem h,List.getD_eq_getElem?_getD,List.getElem?_eq_getElem h]
  rfl
theorem all_FK {d:Dr} (ok:DrOk d) {f:Ft} (h:f∈allF d):FK d f:=by
  unfold allF at h
  simp only [List.mem_append] at h
  have sub:∀ {j s:Nat},j<d.ti.length→s∈d.ti.getD j []→1≤s∧s≤d.sh:=fun {j s} hj hs=>by
    have hm:d.ti.getD j []∈d.ti:=by
      rw [List.getD_eq_getElem?_getD,List.getElem?_eq_getElem hj]
      exact List.getElem_mem hj
    exact Rise.le (ok.ir _ hm) s hs
  rcases h with ((((h | h) | h) | h) | h) | h
  · obtain ⟨j,hj,rfl⟩:=lone_mem h
    exact .up (by omega) (by omega)
  · obtain ⟨j,hj,rfl⟩:=lone_mem h
    exact .down (by omega) (by omega)
  · obtain ⟨j,hj,rfl⟩:=lone_mem h
    exact .broken (by omega) (by omega)
  · obtain ⟨j,hj,s,hs,rfl⟩:=shF_mem h
    obtain ⟨s1,s2⟩:=sub hj hs
    exact .loose (by omega) (by omega) s1 s2 (by rw [Nat.add_sub_cancel];exact hs)
  · obtain ⟨j,hj,s,hs,rfl⟩:=shF_mem h
    rw [getD_mapL (a:=[]) hj] at hs
    obtain ⟨s1,s2,s3⟩:=but_mem hs
    exact .tied (by omega) (by omega) s1 s2 (by rw [Nat.add_sub_cancel];exact s3)
  · obtain ⟨j,hj,s,hs,rfl⟩:=shF_mem h
    rw [getD_mapL (a:=0) hj] at hs
    obtain ⟨s1,s2,s3⟩:=but_mem hs
    exact .drawn (by omega) (by omega) s2
noncomputable abbrev sU:Str:="up"
noncomputable abbrev sD:Str:="down"
noncomputable abbrev sB:Str:="broken"
noncomputable abbrev sL:Str:="loose"
noncomputable abbrev sT:Str:="tied"
noncomputable abbrev sW:Str:="drawn"
noncomputable def tieF (d:Dr) (f:Ft) (t s:Nat):Bool:=if f=(sL,[t,s]) then false else if f=(sT,[t,s]) then true else decide (s∈d.ti.getD (t - 1) [])
noncomputable def thF (d:Dr) (f:Ft) (e:Nat):Nat:=if f=(sB,[e+1]) then 0 else if f.1=sW∧f.2.getD 0 0=e+1 then f.2.getD 1 0 else d.th.getD e 0
noncomputable def lifF (d:Dr) (f:Ft) (p s:Nat):Bool:=if f=(sD,[s]) then false else if f=(sU,[s]) then true else (d.td.getD p []).any fun t=>tieF d f t s
noncomputable def upF (d:Dr) (f:Ft) (p e:Nat):Bool:=decide (0<thF d f e)&&lifF d f p (thF d f e)
noncomputable def rowF (d:Dr) (f:Ft) (p:Nat):Nat:=MM.ofB (upF d f p) d.th.length
theorem FK.broken_of {d:Dr} {f:Ft} (h:FK d f) (z:f.1=sB):∃ e,f=(sB,[e])∧1≤e∧e≤d.th.length:=by
  cases h <;> first | (dsimp only at z;exact absurd z (by decide +kernel)) | exact ⟨_,rfl,by assumption,by assumption⟩
theorem FK.drawn_of {d:Dr} {f:Ft} (h:FK d f) (z:f.1=sW):∃ e s,f=(sW,[e,s])∧1≤e∧e≤d.th.length∧s≤d.sh:=by
  cases h <;> first | (dsimp only at z;exact absurd z (by decide +kernel)) | exact ⟨_,_,rfl,by assumption,by assumption,by assumption⟩
theorem FK.down_of {d:Dr} {f:Ft} (h:FK d f) (z:f.1=sD):∃ s,f=(sD,[s])∧1≤s∧s≤d.sh:=by
  cases h <;> first | (dsimp only at z;exact absurd z (by decide +kernel)) | exact ⟨_,rfl,by assumption,by assumption⟩
theorem FK.up_of {d:Dr} {f:Ft} (h:FK d f) (z:f.1=sU):∃ s,f=(sU,[s])∧1≤s∧s≤d.sh:=by
  cases h <;> first | (dsimp only at z;exact absurd z (by decide +kernel)) | exact ⟨_,rfl,by assumption,by assumption⟩
theorem FK.loose_of {d:Dr} {f:Ft} (h:FK d f) (z:f.1=sL):∃ t s,f=(sL,[t,s])∧1≤t∧t≤d.ti.length∧1≤s∧s≤d.sh∧s∈d.ti.getD (t - 1) []:=by
  cases h <;> first | (dsimp only at z;exact absurd z (by decide +kernel)) | exact ⟨_,_,rfl,by assumption,by assumption,by assumption,by assumption,by assumption⟩
theorem FK.tied_of {d:Dr} {f:Ft} (h:FK d f) (z:f.1=sT):∃ t s,f=(sT,[t,s])∧1≤t∧t≤d.ti.length∧1≤s∧s≤d.sh∧s∉d.ti.getD (t - 1) []:=by
  cases h <;> first | (dsimp only at z;exact absurd z (by decide +kernel)) | exact ⟨_,_,rfl,by assumption,by assumption,by assumption,by assumption,by assumption⟩
theorem map_set {n k v:Nat} {g:Nat→Nat} (hk:k<n):((List.range n).map g).set k v=(List.range n).map fun e=>if e=k then v else g e:=by
  refine List.ext_getElem (by simp) fun i h1 h2=> ?_
  rw [List.getElem_set]
  simp only [List.getElem_map,List.getElem_range]
  by_cases z:k=i
  · rw [if_pos z,if_pos z.symm]
  · rw [if_neg z,if_neg (Ne.symm z)]
theorem th_range (th:List Nat):(List.range th.length).map (fun e=>th.getD e 0)=th:=by
  have:=map_range_getD (fun x=>x) th 0
  simpa using this
theorem at_f0 (f:Ft):atI (fV f) 0=some (.str f.1):=by
  unfold fV atI ixN
  rw [if_pos (by omega),if_pos (by rw [List.length_cons];omega)]
  rfl
noncomputable def sp_threading_with (c:Cs):Sp:=fun vs H Q _=>∃ x d a f,vs=[.ref x, .ref a]∧DrAt c.Draft H x d∧DrOk d∧H a=some (.tup (fV f))∧FK d f∧∀ H' l,Same H H'→H l=none→H' l=some (.lst (((List.range d.th.length).map (thF d f)).map nV))→Q (.ref l) H'
theorem set_nat {xs:List Nat} {k v:Nat}:(xs.map nV).set k (nV v)=(xs.set k v).map nV:=by rw [List.map_set]
noncomputable abbrev s_threading_with:Stmt:=top 45
theorem sc_threading_with:FnScope ["draft","fault","threading"] ["draft","fault"] (defScope s_threading_with):=⟨rfl,rfl,rfl,by decide +kernel,rfl,by decide +kernel,by decide +kernel⟩
theorem ok_threading_with {f:Addr} {fd:FuncData} (F:Fun K "threading_with" "threading_with" s_threading_with f fd) (T:Txt K mg c):FnOk P w K mg base CX0 1 f fd ["draft","fault"] (sp_threading_with c):=by
  refine F.ok sc_threading_with (fun vs H Q E h=> ?_) (fun cdv A outer s H vs Q E hr h=> ?_)
  · obtain ⟨x,d,a,f,rfl,_⟩:=h
    rfl
  · obtain ⟨x,d,a,f,rfl,⟨dx,v1,v2,v3,v4,v5,hx,r1,r2,r3,r4,r5⟩,ok,ha,fk,k⟩:=h
    obtain ⟨b1,rfl,g1,_⟩:=dT_of r1
    have lth:=ok.h2
    refine ⟨_,(pss_cons (ps_set (i:=2) sc_threading_with.nd rfl (Or.inl rfl) (pe_callTy (k_list (K:=K)) rfl (T.own _ (by decide)) boot_list' (pa_cons (k_fld (K:=K) (pv 0) rfl) pa_nil)))
      (pss_cons (ps_if (pt_cmpR op_eq (pe_ix (k_ixt (K:=K)) (pv 1) pe_int (fun _ _=>rfl)) (pe_gS T.k_BROKEN) (nomark _)) (pss_one (ps_asg pe_int (pg_sub (pv 2) (pe_op op_sub (pe_ix (k_ixt (K:=K)) (pv 1) pe_int (fun _ _=>rfl)) pe_int) set_list))) pss_nil)
      (pss_cons (ps_if (pt_cmpR op_eq (pe_ix (k_ixt (K:=K)) (pv 1) pe_int (fun _ _=>rfl)) (pe_gS T.k_DRAWN) (nomark _)) (pss_one (ps_asg (pe_ix (k_ixt (K:=K)) (pv 1) pe_int (fun _ _=>rfl)) (pg_sub (pv 2) (pe_op op_sub (pe_ix (k_ixt (K:=K)) (pv 1) pe_int (fun _ _=>rfl)) pe_int) set_list))) pss_nil)
      (pss_one (ps_ret (pv 2)))))),?_⟩
    walk_at "w"
    refine ⟨_,_,_,_,_,rfl,hx,T.kd_Draft.cl,T.na_Draft_threading,rfl,?_⟩
    walk_at "w"
    refine rd_listOfT (SqT.of g1) fun l hl=> ?_
    have s1:=same_new (o:=HO.lst (d.th.map nV)) hl
    have gl:upd H l (HO.lst (d.th.map nV)) l=some (.lst (((List.range d.th.length).map fun e=>d.th.getD e 0).map nV)):=by rw [upd_same,th_range]
    generalize upd H l (HO.lst (d.th.map nV))=H1 at s1 gl ⊢
    have ha1:=s1 _ _ ha
    have fin:∀ (g:Nat→Nat),(∀ e,g e=thF d f e)→∀ (xs:List V),xs=((List.range d.th.length).map g).map nV→Q (.ref l) (upd H1 l (.lst xs)):=fun g hg xs e=>by
      refine k _ l (fun b o e=> ?_) hl (by rw [upd_same,e,List.map_congr_left fun e _=>hg e])
      rw [upd_ne (fun z=>by rw [z,hl] at e;cases e)]
      exact s1 _ _ e
    walk_at "w"
    refine rd_ixT (SqT.of ha1) (at_f0 f) ?_
    walk_at "w"
    refine iteP (fun hb=> ?_) (fun hb=> ?_)
    · obtain ⟨e,rfl,e1,e2⟩:=fk.broken_of hb
      walk_at "w"
      refine rd_gsub ?_
      walk_at "w"
      refine rd_ixT (SqT.of ha1) (show atI (fV (sB,[e])) 1=some (nV e) from rfl) ?_
      walk_at "w"
      rw [show ((e:Nat):Int) - 1=((e - 1:Nat):Int) by omega]
      refine ⟨l,_,_,e - 1,rfl,rfl,gl,ix_nat (by simp;omega),?_⟩
      have e3:(((List.range d.th.length).map fun e=>d.th.getD e 0).map nV).set (e - 1) (V.int 0)=(((List.range d.th.length).map fun k=>if k=e - 1 then 0 else d.th.getD k 0).map nV):=by
        rw [show V.int 0=nV 0 from rfl,set_nat,map_set (by omega)]
      rw [e3]
      have ha2:upd H1 l (HO.lst (((List.range d.th.length).map fun k=>if k=e - 1 then 0 else d.th.getD k 0).map nV)) a=some (.tup (fV (sB,[e]))):=by
        rw [upd_ne (fun z=>by rw [z,hl] at ha;cases ha)]
        exact ha1
      walk_at "w"
      refine rd_ixT (SqT.of ha2) (at_f0 _) ?_
      walk_at "w"
      refine iteP (fun hw=>absurd (show sB=sW from hw) (by decide +kernel)) (fun _=> ?_)
      walk_at "w"
      refine fin _ (fun k=> ?_) _ rfl
      unfold thF
      by_cases z:k=e - 1
      · rw [if_pos z,if_pos (by rw [z,show e - 1+1=e by omega])]
      · rw [if_neg z,if_neg (fun q=>z (by injection q with _ q;injection q with q;omega)),if_neg (fun q=>absurd (show sB=sW from q.1) (by decide +kernel))]
    · walk_at "w"
      refine rd_ixT (SqT.of ha1) (at_f0 f) ?_
      walk_at "w"
      refine iteP (fun hw=> ?_) (fun hw=> ?_)
      · obtain ⟨e,s,rfl,e1,e2,s2⟩:=fk.drawn_of hw
        walk_at "w"
        refine rd_ixT (SqT.of ha1) (show atI (fV (sW,[e,s])) 2=some (nV s) from rfl) ?_
        walk_at "w"
        refine rd_gsub ?_
        walk_at "w"
        refine rd_ixT (SqT.of ha1) (show atI (fV (sW,[e,s])) 1=some (nV e) from rfl) ?_
        walk_at "w"
        rw [show ((e:Nat):Int) - 1=((e - 1:Nat):Int) by omega]
        refine ⟨l,_,_,e - 1,rfl,rfl,gl,ix_nat (by simp;omega),?_⟩
        walk_at "w"
        refine fin (fun k=>if k=e - 1 then s else d.th.getD k 0) (fun k=> ?_) _ (by rw [set_nat,map_set (by omega)])
        unfold thF
        have n1:¬ ((sW,[e,s]):Ft)=(sB,[k+1]):=fun q=>absurd (show sW=sB from congrArg Prod.fst q) (by decide +kernel)
        rw [if_neg n1]
        by_cases z:k=e - 1
        · rw [if_pos z,if_pos ⟨rfl,by rw [z];show e=_;omega⟩]
          rfl
        · rw [if_neg z,if_neg (fun q=>z (by have:e=k+1:=q.2;omega))]
      · walk_at "w"
        have e0:H1=upd H1 l (.lst (((List.range d.th.length).map fun e=>d.th.getD e 0).map nV)):=by
          funext b
          by_cases z:b=l
          · rw [z,upd_same];exact gl
          · rw [upd_ne z]
        rw [e0]
        refine fin _ (fun k=> ?_) _ rfl
        unfold thF
        rw [if_neg (fun q=>hb (by rw [q])),if_neg (fun q=>hw q.1)]
end
end K31
open L2
namespace K31
open PySem L2 PySem.Spec PyProof.Rows
seal L2.PE L2.PT L2.PW L2.PA L2.PS L2.PSs L2.PI L2.PG L2.PTs L2.PGs
section
variable {P:Program} {w:World} {K:PySem.W.Frag} {mg:Str→Option Value} {base:Heap} {c:Cs}
noncomputable def tmF (d:Dr) (f:Ft) (t:Nat):Nat:=MM.ofB (fun i=>tieF d f (t+1) (i+1)) d.sh
theorem mOf_has' {ns:List Nat} (h:∀ n∈ns,1≤n) (i:Nat):(MM.mOf ns).testBit i=decide (i+1∈ns):=by
  rw [MM.mOf_bit,Bool.eq_iff_iff,List.any_eq_true,decide_eq_true_eq]
  constructor
  · rintro ⟨n,hn,e⟩
    have e:n - 1=i:=of_decide_eq_true e
    have:=h n hn
    rw [← e,show n - 1+1=n by omega]
    exact hn
  · exact fun hn=>⟨_,hn,decide_eq_true (by omega)⟩
theorem mOf_tie {d:Dr} (ok:DrOk d) {t:Nat} (ht:t<d.ti.length):MM.mOf (d.ti.getD t [])=MM.ofB (fun i=>decide (i+1∈d.ti.getD t [])) d.sh:=by
  have hm:=(ok.ir _ (getD_mem (y:=[]) ht)).le
  refine MM.eq_ofB ?_ fun i _=>mOf_has' (fun n hn=>(hm n hn).1) i
  refine Nat.lt_pow_two_of_testBit _ fun i hi=> ?_
  rw [mOf_has' (fun n hn=>(hm n hn).1)]
  exact decide_eq_false fun q=>by have:=(hm _ q).2;omega
theorem xor_bit {d:Dr} {g g':Nat→Bool} {s:Nat} (h1:1≤s) (h2:s≤d.sh) (h:∀ i,i<d.sh→g' i=if i+1=s then !g i else g i):MM.ofB g d.sh ^^^ 2 ^ (s - 1)=MM.ofB g' d.sh:=by
  refine Nat.eq_of_testBit_eq fun i=> ?_
  rw [Nat.testBit_xor,MM.ofB_bit,MM.ofB_bit,Nat.testBit_two_pow]
  by_cases hi:i<d.sh
  · rw [decide_eq_true hi,Bool.true_and,Bool.true_and,h i hi]
    by_cases z:i+1=s
    · rw [if_pos z,decide_eq_true (by omega)]
      cases g i <;> rfl
    · rw [if_neg z,decide_eq_false (by omega)]
      cases g i <;> rfl
  · rw [decide_eq_false hi,Bool.false_and,Bool.false_and,decide_eq_false (by omega)]
    rfl
noncomputable def sp_ties_with (c:Cs):Sp:=fun vs H Q _=>∃ x d a f,vs=[.ref x, .ref a]∧DrAt c.Draft H x d∧DrOk d∧H a=some (.tup (fV f))∧FK d f∧∀ H' l,Same H H'→H l=none→H' l=some (.lst (((List.range d.ti.length).map (tmF d f)).map nV))→Q (.ref l) H'
theorem in_two (z a b:Str):inV (.str z) [.str a, .str b]=(decide (a=z)||decide (b=z)):=by
  unfold inV
  show (decide (a=z)||(decide (b=z)||false))=_
  rw [Bool.or_false]
noncomputable abbrev s_ties_with:Stmt:=top 46
theorem sc_ties_with:FnScope ["draft","fault","ties"] ["draft","fault"] (defScope s_ties_with):=⟨rfl,rfl,rfl,by decide +kernel,rfl,by decide +kernel,by decide +kernel⟩
theorem ok_ties_with {f:Addr} {fd:FuncData} (F:Fun K "ties_with" "ties_with" s_ties_with f fd) (T:Txt K mg c) (c_mask_of:CallF P w K mg base "mask_of" 2 ["numbers"] (sp_mask_of K)) (c_bit_of:CallF P w K mg base "bit_of" 1 ["number"] sp_bit_of):FnOk P w K mg base CX0 3 f fd ["draft","fault"] (sp_ties_with c):=by
  refine F.ok sc_ties_with (fun vs H Q E h=> ?_) (fun cdv A outer s H vs Q E hr h=> ?_)
  · obtain ⟨x,d,a,f,rfl,_⟩:=h
    rfl
  · obtain ⟨x,d,a,f,rfl,⟨dx,v1,v2,v3,v4,v5,hx,h1,h2,h3,h4,h5⟩,ok,ha,fk,k⟩:=h
    obtain ⟨m2,a2,vs2,em2,rfl,e2,l2,b2,el2⟩:=tup_of h2
    cases em2
    rw [List.length_map] at l2
    have t2:=ok.t2
    have il:=ok.il
    refine ⟨_,(pss_cons (ps_comp1 (i:=2) sc_ties_with.nd rfl (Or.inl rfl) (k_pit (K:=K) (k_fld (K:=K) (pv 0) rfl)) (fun _ _ _ _=>pts_nil) (fun _ _ _ _=>(pe_callF c_mask_of hr (pa_cons (pv 0) pa_nil))))
      (pss_cons (ps_if (pt_cmpR (k_in (K:=K)) (pe_ix (k_ixt (K:=K)) (pv 1) pe_int (fun _ _=>rfl)) (pe_tup (pa_cons (pe_gS T.k_LOOSE) (pa_cons (pe_gS T.k_TIED) pa_nil))) (by with_unfolding_all rfl)) (pss_one (ps_augS (pv 2) (pe_op op_sub (pe_ix (k_ixt (K:=K)) (pv 1) pe_int (fun _ _=>rfl)) pe_int) (k_getl (K:=K)) (pe_callF c_bit_of (hr.mono (by decide)) (pa_cons (pe_ix (k_ixt (K:=K)) (pv 1) pe_int (fun _ _=>rfl)) pa_nil)) iop_xor set_list)) pss_nil)
      (pss_one (ps_ret (pv 2))))),?_⟩
    walk_at "w"
    refine ⟨_,_,_,_,_,rfl,hx,T.kd_Draft.cl,T.na_Draft_ties,rfl,?_⟩
    walk_at "w"
    refine ⟨a2,rfl,⟨_,SqT.of e2⟩,fun D hD=> ?_⟩
    refine ints_comp (G:=fun i=>((MM.ofB (fun j=>decide (j+1∈d.ti.getD i [])) d.sh:Nat):Int)) (src_tup (SqT.of e2) rfl) hD b2 ?_ ?_
    · intro i H' R hi s kk
      have hi':i<d.ti.length:=by omega
      have r:=el2 i (by simpa using hi')
      rw [getD_map dT d.ti i .non [] hi'] at r
      obtain ⟨b,eb,hb3,hb4⟩:=dT_of r
      rw [eb]
      rw [← mOf_tie ok hi'] at kk
      walk_at "w"
      have hm:=(ok.ir _ (getD_mem (y:=[]) hi')).le
      exact ⟨true,b,_,rfl,SqT.of (s _ _ hb3),fun n hn=>⟨(hm n hn).1,by have:=hm n hn;have:=ok.s2;omega⟩,fun H3 s3=>kk H3 s3⟩
    intro H1 s1 gl
    rw [nats_L,l2] at gl
    have ha1:=s1 _ _ ha
    have fin:∀ (g:Nat→Nat),(∀ t,t<d.ti.length→g t=tmF d f t)→∀ (H2:Hp) (xs:List V),Same H1 H2→xs=((List.range d.ti.length).map g).map nV→Q (.ref D) (upd H2 D (.lst xs)):=fun g hg H2 xs s2 e=>by
      refine k _ D (fun b o e=> ?_) hD (by rw [upd_same,e,List.map_congr_left fun e he=>hg e (List.mem_range.mp he)])
      rw [upd_ne (fun z=>by rw [z,hD] at e;cases e)]
      exact s2 _ _ (s1 _ _ e)
    walk_at "w"
    refine rd_ixT (SqT.of ha1) (at_f0 f) ?_
    walk_at "w"
    intro p hp
    have z2:=same_new (o:=HO.tup [.str sL, .str sT]) hp
    have gp:upd H1 p (HO.tup [.str sL, .str sT]) p=_:=upd_same
    generalize upd H1 p (HO.tup [.str sL, .str sT])=H2 at z2 gp ⊢
    walk_at "w"
    refine ⟨p,_,rfl, .inr (SqT.of gp),rfl,rfl,?_⟩
    rw [if_neg (by decide),in_two]
    walk_at "w"
    have key:∀ (t s:Nat),f.2=[t,s]→(f.1=sL∧s∈d.ti.getD (t - 1) []∨f.1=sT∧s∉d.ti.getD (t - 1) [])→1≤t→t≤d.ti.length→1≤s→s≤d.sh→∀ u,u<d.ti.length→(if u=t - 1 then MM.ofB (fun j=>decide (j+1∈d.ti.getD u [])) d.sh ^^^ 2 ^ (s - 1) else MM.ofB (fun j=>decide (j+1∈d.ti.getD u [])) d.sh)=tmF d f u:=fun t s ef hk t1 t2 s1 s2 u hu=>by
      unfold tmF
      by_cases z:u=t - 1
      · rw [if_pos z]
        refine xor_bit s1 s2 fun i hi=> ?_
        unfold tieF
        by_cases y:i+1=s
        · rw [if_pos y]
          rcases hk with ⟨q1,q2⟩ | ⟨q1,q2⟩
          · rw [if_pos (by rw [show f=(f.1,f.2) from rfl,ef,q1,show t=u+1 by omega,y])]
            rw [← z] at q2
            rw [y,decide_eq_true q2]
            rfl
          · rw [if_neg (fun q=>absurd (show sL=sT by rw [← q1,q]) (by decide +kernel)),if_pos (by rw [show f=(f.1,f.2) from rfl,ef,q1,show t=u+1 by omega,y])]
            rw [← z] at q2
            rw [y,decide_eq_false q2]
            rfl
        · have ne:∀ w:Str,¬ f=(w,[u+1,i+1]):=fun w q=>y (by have q2:f.2=[u+1,i+1]:=by rw [q]
                                                            rw [ef] at q2
                                                            injection q2 with _ q2
                                                            injection q2 with q2
                                                            exact q2.symm)
          rw [if_neg y,if_neg (ne _),if_neg (ne _),Nat.add_sub_cancel]
      · rw [if_neg z]
        refine MM.ofB_congr fun i hi=> ?_
        unfold tieF
        have ne:∀ w:Str,¬ f=(w,[u+1,i+1]):=fun w q=>z (by
          have q2:f.2=[u+1,i+1]:=by rw [q]
          rw [ef] at q2
          injection q2 with q2
          omega)
        rw [if_neg (ne _),if_neg (ne _),Nat.add_sub_cancel]
    have gl2:=z2 _ _ gl
    have ha2:=z2 _ _ ha1
    refine iteC (fun hc=> ?_) (fun hc=> ?_)
    · obtain ⟨t,s,ef,hk,t1,tl,s1',s2'⟩:∃ t s:Nat,f.2=[t,s]∧(f.1=sL∧s∈d.ti.getD (t - 1) []∨f.1=sT∧s∉d.ti.getD (t - 1) [])∧1≤t∧t≤d.ti.length∧1≤s∧s≤d.sh:=by
        rcases Bool.or_eq_true_iff.mp hc with q | q
        · obtain ⟨t,s,rfl,a1,a2,a3,a4,a5⟩:=fk.loose_of (of_decide_eq_true q).symm
          exact ⟨t,s,rfl, .inl ⟨rfl,a5⟩,a1,a2,a3,a4⟩
        · obtain ⟨t,s,rfl,a1,a2,a3,a4,a5⟩:=fk.tied_of (of_decide_eq_true q).symm
          exact ⟨t,s,rfl, .inr ⟨rfl,a5⟩,a1,a2,a3,a4⟩
      have at1:atI (fV f) 1=some (nV t):=by unfold fV;rw [ef];rfl
      have at2:atI (fV f) 2=some (nV s):=by unfold fV;rw [ef];rfl
      refine rd_augS ?_
      walk_at "w"
      refine rd_ixT (SqT.of ha2) at1 ?_
      walk_at "w"
      rw [show ((t:Nat):Int) - 1=((t - 1:Nat):Int) by omega]
      refine rd_ixL (SqL.of gl2) (v:=nV (MM.ofB (fun j=>decide (j+1∈d.ti.getD (t - 1) [])) d.sh)) (atI_nat (j:=t - 1) ?_) ?_
      · rw [List.getElem?_map,List.getElem?_map,List.getElem?_range (by omega)]
        rfl
      walk_at "w"
      refine rd_ixT (SqT.of ha2) at2 ?_
      walk_at "w"
      refine ⟨s,rfl,s1',by have:=ok.s2;omega,?_⟩
      walk_at "w"
      rw [bX]
      refine ⟨D,_,_,t - 1,rfl,rfl,gl2,ix_nat (by simp;omega),?_⟩
      walk_at "w"
      refine fin _ (key t s ef hk t1 tl s1' s2') _ _ z2 ?_
      rw [show V.int (((MM.ofB (fun j=>decide (j+1∈d.ti.getD (t - 1) [])) d.sh ^^^ 2 ^ (s - 1):Nat):Int))=nV (MM.ofB (fun j=>decide (j+1∈d.ti.getD (t - 1) [])) d.sh ^^^ 2 ^ (s - 1)) from rfl,set_nat,map_set (by omega)]
      refine congrArg (List.map nV) (List.map_congr_left fun u hu=> ?_)
      by_cases z:u=t - 1
      · rw [if_pos z,if_pos z,z]
      · rw [if_neg z,if_neg z]
    · walk_at "w"
      have e0:H2=upd H2 D (.lst (((List.range d.ti.length).map fun i=>MM.ofB (fun j=>decide (j+1∈d.ti.getD i [])) d.sh).map nV)):=by
        funext b
        by_cases z:b=D
        · rw [z,upd_same];exact gl2
        · rw [upd_ne z]
      rw [e0]
      refine fin _ (fun t ht=>MM.ofB_congr fun i hi=> ?_) _ _ z2 rfl
      rw [Bool.or_eq_false_iff] at hc
      unfold tieF
      rw [if_neg (fun q=>absurd (show sL=f.1 by rw [q]) (of_decide_eq_false hc.1)),if_neg (fun q=>absurd (show sT=f.1 by rw [q]) (of_decide_eq_false hc.2)),Nat.add_sub_cancel]
noncomputable def cdF (d:Dr) (f:Ft) (i:Nat):Nat:=if f=(sD,[i+1]) then 0 else thrN ((List.range d.th.length).map (thF d f)) (i+1)
noncomputable def sp_carried_with (c:Cs):Sp:=fun vs H Q _=>∃ x d a f,vs=[.ref x, .ref a]∧DrAt c.Draft H x d∧DrOk d∧H a=some (.tup (fV f))∧FK d f∧∀ H' l,Same H H'→H l=none→H' l=some (.lst (((List.range d.sh).map (cdF d f)).map nV))→Q (.ref l) H'
noncomputable abbrev s_carried_with:Stmt:=top 47
theorem sc_carried_with:FnScope ["draft","fault","carried"] ["draft","fault"] (defScope s_carried_with):=⟨rfl,rfl,rfl,by decide +kernel,rfl,by decide +kernel,by decide +kernel⟩
theorem ok_carried_with {f:Addr} {fd:FuncData} (F:Fun K "carried_with" "carried_with" s_carried_with f fd) (T:Txt K mg c) (c_shaft_ends:CallF P w K mg base "shaft_ends" 4 ["threading","shafts"] (sp_shaft_ends K)) (c_threading_with:CallF P w K mg base "threading_with" 1 ["draft","fault"] (sp_threading_with c)):FnOk P w K mg base CX0 5 f fd ["draft","fault"] (sp_carried_with c):=by
  refine F.ok sc_carried_with (fun vs H Q E h=> ?_) (fun cdv A outer s H vs Q E hr h=> ?_)
  · obtain ⟨x,d,a,f,rfl,_⟩:=h
    rfl
  · obtain ⟨x,d,a,f,rfl,D0,ok,ha,fk,k⟩:=h
    have n2:=ok.h2
    have sh2:=ok.s2
    refine ⟨_,(pss_cons (ps_set (i:=2) sc_carried_with.nd rfl (Or.inl rfl) (pe_callF c_shaft_ends hr (pa_cons (pe_callF c_threading_with (hr.mono (by decide)) (pa_cons (pv 0) (pa_cons (pv 1) pa_nil))) (pa_cons (k_fld (K:=K) (pv 0) rfl) pa_nil))))
      (pss_cons (ps_if (pt_cmpR op_eq (pe_ix (k_ixt (K:=K)) (pv 1) pe_int (fun _ _=>rfl)) (pe_gS T.k_DOWN) (nomark _)) (pss_one (ps_asg pe_int (pg_sub (pv 2) (pe_op op_sub (pe_ix (k_ixt (K:=K)) (pv 1) pe_int (fun _ _=>rfl)) pe_int) set_list))) pss_nil)
      (pss_one (ps_ret (pv 2))))),?_⟩
    walk_at "w"
    refine ⟨x,d,a,f,rfl,D0,ok,ha,fk,fun H1 l s1 hl gl=> ?_⟩
    obtain ⟨dx,v1,v2,v3,v4,v5,hx,r1,r2,r3,r4,r5⟩:=D0.same s1
    walk_at "w"
    refine ⟨_,_,_,_,_,rfl,hx,T.kd_Draft.cl,T.na_Draft_shafts,rfl,?_⟩
    walk_at "w"
    refine ⟨l,false,_,d.sh,rfl,SqL.of gl,by simp;omega,by omega,fun H2 q s2 hq gq=> ?_⟩
    have ha2:=s2 _ _ (s1 _ _ ha)
    have s12:=s1.trans s2
    have fq:H q=none:=s1.free hq
    have fin:∀ (g:Nat→Nat),(∀ t,t<d.sh→g t=cdF d f t)→∀ xs:List V,xs=((List.range d.sh).map g).map nV→Q (.ref q) (upd H2 q (.lst xs)):=fun g hg xs e=>by
      refine k _ q (fun b o e=> ?_) fq (by rw [upd_same,e,List.map_congr_left fun e he=>hg e (List.mem_range.mp he)])
      rw [upd_ne (fun z=>by rw [z,fq] at e;cases e)]
      exact s12 _ _ e
    walk_at "w"
    refine rd_ixT (SqT.of ha2) (at_f0 f) ?_
    walk_at "w"
    refine iteP (fun hb=> ?_) (fun hb=> ?_)
    · obtain ⟨s,rfl,e1,e2⟩:=fk.down_of hb
      walk_at "w"
      refine rd_gsub ?_
      walk_at "w"
      refine rd_ixT (SqT.of ha2) (show atI (fV (sD,[s])) 1=some (nV s) from rfl) ?_
      walk_at "w"
      rw [show ((s:Nat):Int) - 1=((s - 1:Nat):Int) by omega]
      refine ⟨q,_,_,s - 1,rfl,rfl,gq,ix_nat (by simp;omega),?_⟩
      walk_at "w"
      refine fin _ (fun t ht=> ?_) _ (by rw [show V.int 0=nV 0 from rfl,set_nat,map_set (by omega)])
      unfold cdF
      by_cases z:t=s - 1
      · rw [if_pos z,if_pos (by rw [z,show s - 1+1=s by omega])]
      · rw [if_neg z,if_neg (fun q=>z (by injection q with _ q;injection q with q;omega))]
    · walk_at "w"
      have e0:H2=upd H2 q (.lst (((List.range d.sh).map fun i=>thrN ((List.range d.th.length).map (thF d f)) (i+1)).map nV)):=by
        funext b
        by_cases z:b=q
        · rw [z,upd_same];exact gq
        · rw [upd_ne z]
      rw [e0]
      refine fin _ (fun t ht=> ?_) _ rfl
      unfold cdF
      rw [if_neg (fun q=>hb (by rw [q]))]
end
end K31
open L2
namespace K31
open PySem L2 PySem.Spec PyProof.Rows
seal L2.PE L2.PT L2.PW L2.PA L2.PS L2.PSs L2.PI L2.PG L2.PTs L2.PGs
section
variable {P:Program} {w:World} {K:PySem.W.Frag} {mg:Str→Option Value} {base:Heap} {c:Cs}
noncomputable def aF (d:Dr) (f:Ft):Nat:=if f.1=sU then thrN d.th (f.2.getD 0 0) else 0
noncomputable def GearAt (C:Addr) (H:Hp) (x:Addr) (d:Dr) (f:Ft):Prop:=∃ dx t1 t2,H x=some (.ins C dx [("tied", .ref t1),("carried", .ref t2),("always_up",nV (aF d f))])∧H t1=some (.lst (((List.range d.ti.length).map (tmF d f)).map nV))∧H t2=some (.lst (((List.range d.sh).map (cdF d f)).map nV))
theorem GearAt.same {C:Addr} {H H':Hp} {x:Addr} {d:Dr} {f:Ft} (h:GearAt C H x d f) (s:Same H H'):GearAt C H' x d f:=by
  obtain ⟨dx,t1,t2,a,b,c⟩:=h
  exact ⟨dx,t1,t2,s _ _ a,s _ _ b,s _ _ c⟩
theorem DrAt.ins {C C':Addr} {H:Hp} {x y:Addr} {d:Dr} {dx':Addr} {fs:List (Str × V)} {o:HO} (h:DrAt C H y d) (hx:H x=some (.ins C' dx' fs)) (ne:y≠x):DrAt C (upd H x o) y d:=by
  obtain ⟨dx,v1,v2,v3,v4,v5,h0,h1,h2,h3,h4,h5⟩:=h
  exact ⟨dx,v1,v2,v3,v4,v5,by rw [upd_ne ne];exact h0,h1.ins hx,h2.ins hx,h3.ins hx,h4.ins hx,h5.ins hx⟩
noncomputable def sp_Gear___init__ (c:Cs):Sp:=fun vs H Q _=>∃ (x dx y a:Addr) (d:Dr) (f:Ft),vs=[.ref x, .ref y, .ref a]∧H x=some (.ins c.Gear dx [])∧DrAt c.Draft H y d∧DrOk d∧H a=some (.tup (fV f))∧FK d f∧
  ∀ H',(∀ b o,H b=some o→b≠x→H' b=some o)→GearAt c.Gear H' x d f→Q .non H'
noncomputable abbrev s_Gear___init__:Stmt:=inClass (top 48) 0
theorem sc_Gear___init__:FnScope ["self","draft","fault","told"] ["self","draft","fault"] (defScope s_Gear___init__):=⟨rfl,rfl,rfl,by decide +kernel,rfl,by decide +kernel,by decide +kernel⟩
theorem ok_Gear___init__ {f:Addr} {fd:FuncData} (F:Fun K "__init__" "Gear.__init__" s_Gear___init__ f fd) (T:Txt K mg c) (c_ties_with:CallF P w K mg base "ties_with" 3 ["draft","fault"] (sp_ties_with c)) (c_carried_with:CallF P w K mg base "carried_with" 5 ["draft","fault"] (sp_carried_with c)) (c_ends_through:CallF P w K mg base "ends_through" 3 ["threading","shaft"] (sp_ends_through K)):FnOk P w K mg base CX0 6 f fd ["self","draft","fault"] (sp_Gear___init__ c):=by
  refine F.ok sc_Gear___init__ (fun vs H Q E h=> ?_) (fun cdv A outer s H vs Q E hr h=> ?_)
  · obtain ⟨x,dx,y,a,d,f,rfl,_⟩:=h
    rfl
  · obtain ⟨x,dx,y,a,d,f,rfl,hx,D0,ok,ha,fk,k⟩:=h
    have n2:=ok.h2
    have nyx:y≠x:=fun z=>by
      obtain ⟨dx',v1,v2,v3,v4,v5,h0,_⟩:=id D0
      rw [z,hx] at h0
      injection h0 with h0
      injection h0 with _ _ e
      cases e
    have nax:a≠x:=ne_of ha hx (by intro z;cases z)
    refine ⟨_,(pss_cons (ps_set (i:=3) sc_Gear___init__.nd rfl (Or.inl rfl) (pe_ifExp (pt_cmpR op_notN (pv 2) pe_non (nomark _)) (pv 2) (pe_tup (pa_cons pe_non pa_nil))))
      (pss_cons (ps_fld (pv 0) (pe_callF c_ties_with (hr.mono (by decide)) (pa_cons (pv 1) (pa_cons (pv 3) pa_nil))) rfl)
      (pss_cons (ps_fld (pv 0) (pe_callF c_carried_with hr (pa_cons (pv 1) (pa_cons (pv 3) pa_nil))) rfl)
      (pss_one (ps_fld (pv 0) (pe_ifExp (pt_cmpR op_eq (pe_ix (k_ixt (K:=K)) (pv 3) pe_int (fun _ _=>rfl)) (pe_gS T.k_UP) (nomark _)) (pe_callF c_ends_through (hr.mono (by decide)) (pa_cons (k_fld (K:=K) (pv 1) rfl) (pa_cons (pe_ix (k_ixt (K:=K)) (pv 3) pe_int (fun _ _=>rfl)) pa_nil))) pe_int) rfl))))),?_⟩
    walk_at "w"
    refine ⟨rfl,?_⟩
    walk_at "w"
    rw [show (!decide (V.ref a=V.non))=true by rw [decide_eq_false (by intro z;cases z)];rfl]
    refine iteT ?_
    walk_at "w"
    refine ⟨y,d,a,f,rfl,D0,ok,ha,fk,fun H1 l1 s1 hl1 gl1=> ?_⟩
    walk_at "w"
    refine rd_set (s1 _ _ hx) T.kd_Gear.cl T.na_Gear_tied (by decide) ?_
    rw [show putF ("tied":Str) (V.ref l1) []=([("tied", .ref l1)]:List (Str × V)) from rfl]
    have D1:=(D0.same s1).ins (o:=HO.ins c.Gear dx [("tied", .ref l1)]) (s1 _ _ hx) nyx
    have nlx:l1≠x:=fun z=>by rw [z,hx] at hl1;cases hl1
    have kp1:∀ b o,b≠x→H1 b=some o→upd H1 x (HO.ins c.Gear dx [("tied", .ref l1)]) b=some o:=fun b o h e=>by rw [upd_ne h];exact e
    have gx1:upd H1 x (HO.ins c.Gear dx [("tied", .ref l1)]) x=_:=upd_same
    walk_at "w"
    generalize upd H1 x (HO.ins c.Gear dx [("tied", .ref l1)])=H2 at D1 kp1 gx1 ⊢
    refine ⟨y,d,a,f,rfl,D1,ok,kp1 _ _ nax (s1 _ _ ha),fk,fun H3 l2 s3 hl2 gl2=> ?_⟩
    walk_at "w"
    refine rd_set (s3 _ _ gx1) T.kd_Gear.cl T.na_Gear_carried (by show 1<1000;decide) ?_
    rw [show putF ("carried":Str) (V.ref l2) ([("tied", .ref l1)]:List (Str × V))=([("tied", .ref l1),("carried", .ref l2)]:List (Str × V)) from rfl]
    have D3:=(D1.same s3).ins (o:=HO.ins c.Gear dx [("tied", .ref l1),("carried", .ref l2)]) (s3 _ _ gx1) nyx
    have nl2x:l2≠x:=fun z=>by rw [z,gx1] at hl2;cases hl2
    have kp3:∀ b o,b≠x→H3 b=some o→upd H3 x (HO.ins c.Gear dx [("tied", .ref l1),("carried", .ref l2)]) b=some o:=fun b o h e=>by rw [upd_ne h];exact e
    have gx3:upd H3 x (HO.ins c.Gear dx [("tied", .ref l1),("carried", .ref l2)]) x=_:=upd_same
    have ha3:=kp3 _ _ nax (s3 _ _ (kp1 _ _ nax (s1 _ _ ha)))
    have g1':=kp3 _ _ nlx (s3 _ _ (kp1 _ _ nlx gl1))
    have g2':=kp3 _ _ nl2x gl2
    have kp:∀ b o,H b=some o→b≠x→upd H3 x (HO.ins c.Gear dx [("tied", .ref l1),("carried", .ref l2)]) b=some o:=fun b o e h=>kp3 _ _ h (s3 _ _ (kp1 _ _ h (s1 _ _ e)))
    walk_at "w"
    generalize upd H3 x (HO.ins c.Gear dx [("tied", .ref l1),("carried", .ref l2)])=H4 at D3 gx3 ha3 g1' g2' kp ⊢
    refine rd_ixT (SqT.of ha3) (at_f0 f) ?_
    walk_at "w"
    have fin:∀ H5,Same H4 H5→GearAt c.Gear (upd H5 x (HO.ins c.Gear dx [("tied", .ref l1),("carried", .ref l2),("always_up",nV (aF d f))])) x d f∧∀ b o,H b=some o→b≠x→(upd H5 x (HO.ins c.Gear dx [("tied", .ref l1),("carried", .ref l2),("always_up",nV (aF d f))])) b=some o:=fun H5 s5=>
      ⟨⟨dx,l1,l2,upd_same,by rw [upd_ne nlx];exact s5 _ _ g1',by rw [upd_ne nl2x];exact s5 _ _ g2'⟩,fun b o e h=>by rw [upd_ne h];exact s5 _ _ (kp b o e h)⟩
    refine iteP (fun hu=> ?_) (fun hu=> ?_)
    · obtain ⟨s,rfl,e1,e2⟩:=fk.up_of hu
      obtain ⟨dx',v1,v2,v3,v4,v5,hy,r1,_⟩:=id D3
      obtain ⟨b1,rfl,g1,_⟩:=dT_of r1
      walk_at "w"
      refine ⟨_,_,_,_,_,rfl,hy,T.kd_Draft.cl,T.na_Draft_threading,rfl,?_⟩
      walk_at "w"
      refine rd_ixT (SqT.of ha3) (show atI (fV (sU,[s])) 1=some (nV s) from rfl) ?_
      walk_at "w"
      refine ⟨b1,true,d.th,s,rfl,SqT.of g1,by omega,fun H5 s5=> ?_⟩
      walk_at "w"
      refine rd_set (s5 _ _ gx3) T.kd_Gear.cl T.na_Gear_always_up (by show 2<1000;decide) ?_
      have ea:aF d (sU,[s])=thrN d.th s:=if_pos rfl
      obtain ⟨f1,f2⟩:=fin H5 s5
      walk_at "w"
      rw [ea] at f1 f2
      exact k _ f2 f1
    · walk_at "w"
      refine rd_set gx3 T.kd_Gear.cl T.na_Gear_always_up (by show 2<1000;decide) ?_
      have ea:aF d f=0:=if_neg hu
      obtain ⟨f1,f2⟩:=fin H4 (Same.refl _)
      walk_at "w"
      rw [ea] at f1 f2
      exact k _ f2 f1
theorem gear_mk {c:Cs} {H:Hp} {R:Addr→Hp→Prop} {y a:Addr} {d:Dr} {f:Ft} (D0:DrAt c.Draft H y d) (ok:DrOk d) (ha:H a=some (.tup (fV f))) (fk:FK d f) (h:∀ H' x,Same H H'→H x=none→GearAt c.Gear H' x d f→R x H'):
    ∀ x dx,H x=none→H dx=none→dx≠x→sp_Gear___init__ c [.ref x, .ref y, .ref a] (upd (upd H dx (.own x)) x (.ins c.Gear dx [])) (fun v H2=>v= .non∧R x H2) E0:=by
  intro x dx hx hdx ne
  have s0:=same_obj (o:=HO.ins c.Gear dx []) (u:= .own x) hx hdx
  exact ⟨x,dx,y,a,d,f,rfl,upd_same,D0.same s0,ok,s0 _ _ ha,fk,fun H' kp at'=>⟨rfl,h H' x (fun b o e=>kp b o (s0 b o e) (ne_of_none e hx)) hx at'⟩⟩
theorem th_le {d:Dr} (ok:DrOk d) {f:Ft} (fk:FK d f) {e:Nat} (he:e<d.th.length):thF d f e≤d.sh:=by
  unfold thF
  split
  · exact Nat.zero_le _
  · split
    · rename_i h
      obtain ⟨e',s,rfl,_,_,h3⟩:=fk.drawn_of h.1
      exact h3
    · exact ok.hs _ (getD_mem he)
theorem getD_rng {n i:Nat} {g:Nat→Nat} (h:i<n):((List.range n).map g).getD i 0=g i:=by
  rw [List.getD_eq_getElem?_getD,List.getElem?_map,List.getElem?_range h]
  rfl
theorem th_up {d:Dr} {s e:Nat}:thF d (sU,[s]) e=d.th.getD e 0:=by
  unfold thF
  rw [if_neg (fun q=>absurd (show sU=sB from congrArg Prod.fst q) (by decide +kernel)),if_neg (fun q=>absurd (show sU=sW from q.1) (by decide +kernel))]
theorem gear_row {d:Dr} (ok:DrOk d) {f:Ft} (fk:FK d f) {p:Nat} (hp:p<d.td.length):aF d f ||| rowN ((List.range d.sh).map (cdF d f)) (MM.uOf ((d.td.getD p []).map fun k=>((List.range d.ti.length).map (tmF d f)).getD (k - 1) 0))=rowF d f p:=by
  have hR:=ok.pr _ (getD_mem (y:=[]) hp)
  have hk:=hR.le
  have il:=ok.il
  have lth:((List.range d.th.length).map (thF d f)).length=d.th.length:=by simp
  have liftB:∀ s,1≤s→(MM.uOf ((d.td.getD p []).map fun k=>((List.range d.ti.length).map (tmF d f)).getD (k - 1) 0)).testBit (s - 1)=(decide (s≤d.sh)&&(d.td.getD p []).any fun t=>tieF d f t s):=fun s h1=>by
    rw [MM.uOf_bit,List.any_map]
    have e:(d.td.getD p []).any ((fun m=>m.testBit (s - 1))∘fun k=>((List.range d.ti.length).map (tmF d f)).getD (k - 1) 0)=(d.td.getD p []).any fun t=>decide (s≤d.sh)&&tieF d f t s:=by
      rw [Bool.eq_iff_iff,List.any_eq_true,List.any_eq_true]
      have one:∀ t∈d.td.getD p [],(((List.range d.ti.length).map (tmF d f)).getD (t - 1) 0).testBit (s - 1)=(decide (s≤d.sh)&&tieF d f t s):=fun t ht=>by
        obtain ⟨t1,t2⟩:=hk t ht
        rw [getD_rng (by omega)]
        unfold tmF
        rw [MM.ofB_bit,show t - 1+1=t by omega,show s - 1+1=s by omega]
        congr 1
        exact decide_eq_decide.mpr (by omega)
      exact ⟨fun ⟨t,ht,h⟩=>⟨t,ht,by rw [← one t ht];exact h⟩,fun ⟨t,ht,h⟩=>⟨t,ht,by show (((List.range d.ti.length).map (tmF d f)).getD (t - 1) 0).testBit (s - 1)=true;rw [one t ht];exact h⟩⟩
    rw [e]
    cases hq:decide (s≤d.sh) with
    | true=>simp
    | false=>simp
  have cdB:∀ s e,1≤s→s≤d.sh→(((List.range d.sh).map (cdF d f)).getD (s - 1) 0).testBit e=(decide (e<d.th.length)&&(!decide (f=(sD,[s]))&&decide (thF d f e=s))):=fun s e h1 h2=>by
    rw [getD_rng (by omega)]
    unfold cdF
    rw [show s - 1+1=s by omega]
    split
    · rename_i q
      rw [Nat.zero_testBit,decide_eq_true q]
      simp
    · rename_i q
      unfold thrN
      rw [MM.ofB_bit,lth,decide_eq_false q]
      by_cases z:e<d.th.length
      · rw [getD_rng z]
        rfl
      · rw [decide_eq_false z]
        rfl
  refine Nat.eq_of_testBit_eq fun e=> ?_
  unfold rowF
  rw [Nat.testBit_or,MM.ofB_bit]
  unfold rowN
  rw [MM.uOf_bit,List.any_map]
  have aB:(aF d f).testBit e=(decide (e<d.th.length)&&(decide (f.1=sU)&&decide (d.th.getD e 0=f.2.getD 0 0))):=by
    unfold aF
    split
    · rename_i q
      unfold thrN
      rw [MM.ofB_bit,decide_eq_true q,Bool.true_and]
    · rename_i q
      rw [Nat.zero_testBit,decide_eq_false q]
      simp
  rw [aB,Bool.eq_iff_iff]
  simp only [Bool.or_eq_true,Bool.and_eq_true,decide_eq_true_eq,List.any_eq_true,Function.comp]
  constructor
  · rintro (⟨he,h1,h2⟩ | ⟨s,hs,h⟩)
    · obtain ⟨s,rfl,s1,s2⟩:=fk.up_of h1
      refine ⟨he,?_⟩
      unfold upF lifF
      have h2:d.th.getD e 0=s:=h2
      rw [th_up,h2,decide_eq_true (by omega),if_neg (fun q=>absurd (show sU=sD from congrArg Prod.fst q) (by decide +kernel)),if_pos rfl]
      rfl
    · obtain ⟨s1,hb⟩:=(MM.nOf_mem _ _).mp hs
      rw [liftB s s1,Bool.and_eq_true,decide_eq_true_eq] at hb
      rw [cdB s e s1 hb.1] at h
      simp only [Bool.and_eq_true,decide_eq_true_eq,Bool.not_eq_true',decide_eq_false_iff_not] at h
      obtain ⟨he,hd,ht⟩:=h
      refine ⟨he,?_⟩
      unfold upF lifF
      rw [ht,decide_eq_true (by omega),if_neg hd,Bool.true_and]
      split
      · rfl
      · exact hb.2
  · rintro ⟨he,h⟩
    unfold upF lifF at h
    rw [Bool.and_eq_true,decide_eq_true_eq] at h
    obtain ⟨h0,h⟩:=h
    have hle:=th_le ok fk he
    split at h
    · cases h
    · rename_i hd
      split at h
      · rename_i hu
        obtain ⟨s,rfl,_,_⟩:=fk.up_of (show f.1=sU by rw [hu])
        rw [th_up] at hu
        injection hu with _ hu
        injection hu with hu
        exact .inl ⟨he,rfl,hu.symm⟩
      · refine .inr ⟨thF d f e,(MM.nOf_mem _ _).mpr ⟨h0,?_⟩,?_⟩
        · rw [liftB _ h0,decide_eq_true hle,Bool.true_and]
          exact h
        · rw [cdB _ e h0 hle,decide_eq_true he,decide_eq_false hd,decide_eq_true rfl]
          rfl
noncomputable def sp_Gear_row_of (K:PySem.W.Frag) (c:Cs):Sp:=fun vs H Q _=>∃ x d f,∃ (a:Addr) (p:Nat),vs=[.ref x, .ref a]∧GearAt c.Gear H x d f∧DrOk d∧FK d f∧p<d.td.length∧SqT K H a ((d.td.getD p []).map nV)∧∀ H',Same H H'→Q (nV (rowF d f p)) H'
noncomputable abbrev s_Gear_row_of:Stmt:=inClass (top 48) 1
theorem sc_Gear_row_of:FnScope ["self","treadles"] ["self","treadles"] (defScope s_Gear_row_of):=⟨rfl,rfl,rfl,by decide +kernel,rfl,by decide +kernel,by decide +kernel⟩
theorem ok_Gear_row_of {f:Addr} {fd:FuncData} (F:Fun K "row_of" "Gear.row_of" s_Gear_row_of f fd) (T:Txt K mg c) (c_row_by:CallF P w K mg base "row_by" 4 ["carried","lift"] (sp_row_by K)) (c_lift_by:CallF P w K mg base "lift_by" 2 ["ties","treadles"] (sp_lift_by K)):FnOk P w K mg base CX0 5 f fd ["self","treadles"] (sp_Gear_row_of K c):=by
  refine F.ok sc_Gear_row_of (fun vs H Q E h=> ?_) (fun cdv A outer s H vs Q E hr h=> ?_)
  · obtain ⟨x,d,f,a,p,rfl,_⟩:=h
    rfl
  · obtain ⟨x,d,f,a,p,rfl,⟨dx,t1,t2,gx,g1,g2⟩,ok,fk,hp,ha,k⟩:=h
    have hR:=ok.pr _ (getD_mem (y:=[]) hp)
    have il:=ok.il
    have t2':=ok.t2
    have sh2:=ok.s2
    refine ⟨_,(pss_one (ps_ret (pe_op op_or (k_fld (K:=K) (pv 0) rfl) (pe_callF c_row_by hr (pa_cons (k_fld (K:=K) (pv 0) rfl) (pa_cons (pe_callF c_lift_by (hr.mono (by decide)) (pa_cons (k_fld (K:=K) (pv 0) rfl) (pa_cons (pv 1) pa_nil))) pa_nil)))))),?_⟩
    walk_at "w"
    refine ⟨_,_,_,_,_,rfl,gx,T.kd_Gear.cl,T.na_Gear_always_up,rfl,?_⟩
    walk_at "w"
    refine ⟨_,_,_,_,_,rfl,gx,T.kd_Gear.cl,T.na_Gear_carried,rfl,?_⟩
    walk_at "w"
    refine ⟨_,_,_,_,_,rfl,gx,T.kd_Gear.cl,T.na_Gear_tied,rfl,?_⟩
    walk_at "w"
    refine ⟨t1,a,true,_,_,rfl,SqL.of g1,ha,by have:=hR.len;omega,fun n hn=>⟨(hR.le n hn).1,by have:=(hR.le n hn).2;simp;omega⟩,fun H1 s1=> ?_⟩
    walk_at "w"
    refine ⟨t2,_,_,rfl,SqL.of (s1 _ _ g2),?_,by simp;omega,fun H2 s2=> ?_⟩
    · rw [List.length_map,List.length_range]
      refine Nat.lt_pow_two_of_testBit _ fun i hi=> ?_
      rw [MM.uOf_bit,List.any_map,List.any_eq_false]
      intro t ht
      obtain ⟨u1,u2⟩:=hR.le t ht
      show ¬ (((List.range d.ti.length).map (tmF d f)).getD (t - 1) 0).testBit i=true
      rw [getD_rng (by omega)]
      unfold tmF
      rw [MM.ofB_bit,decide_eq_false (by omega)]
      simp
    · walk_at "w"
      rw [bO,gear_row ok fk hp]
      exact k H2 (s1.trans s2)
end
end K31
open L2
namespace K31
open PySem L2 PySem.Spec PyProof.Rows
seal L2.PE L2.PT L2.PW L2.PA L2.PS L2.PSs L2.PI L2.PG L2.PTs L2.PGs
section
variable {P:Program} {w:World} {K:PySem.W.Frag} {mg:Str→Option Value} {base:Heap} {c:Cs}
noncomputable def wB (d:Dr) (rs:List Nat) (f:Ft):Bool:=decide ((List.range d.td.length).map (rowF d f)=rs)
theorem wB_iff {d:Dr} {rs:List Nat} {f:Ft} (l:rs.length=d.td.length):wB d rs f=true↔∀ i,i<rs.length→rowF d f i=rs.getD i 0:=by
  unfold wB
  rw [decide_eq_true_eq]
  constructor
  · intro h i hi
    rw [← h,getD_rng (by omega)]
  · intro h
    refine List.ext_getElem (by simp [l]) fun i h1 h2=> ?_
    have:=h i h2
    rw [List.getD_eq_getElem?_getD,List.getElem?_eq_getElem h2] at this
    simpa using this
noncomputable def sp_weaves_with (c:Cs):Sp:=fun vs H Q _=>∃ y a x d f n rs,vs=[.ref y, .ref a, .ref x]∧DrAt c.Draft H y d∧DrOk d∧H a=some (.tup (fV f))∧FK d f∧ClAt c.Cloth H x n rs∧rs.length=d.td.length∧∀ H',Same H H'→Q (.bl (wB d rs f)) H'
noncomputable abbrev s_weaves_with:Stmt:=top 53
theorem sc_weaves_with:FnScope ["draft","fault","cloth","gear","treadles","row"] ["draft","fault","cloth"] (defScope s_weaves_with):=⟨rfl,rfl,rfl,by decide +kernel,rfl,by decide +kernel,by decide +kernel⟩
theorem ok_weaves_with {f:Addr} {fd:FuncData} (F:Fun K "weaves_with" "weaves_with" s_weaves_with f fd) (T:Txt K mg c) (m_Gear:MakeF P w K mg base "Gear" c.Gear 6 ["self","draft","fault"] (sp_Gear___init__ c)) (d_Gear_row_of:MethF P w K mg base c.Gear "row_of" 5 ["self","treadles"] (sp_Gear_row_of K c)):FnOk P w K mg base CX0 8 f fd ["draft","fault","cloth"] (sp_weaves_with c):=by
  refine F.ok sc_weaves_with (fun vs H Q E h=> ?_) (fun cdv A outer s H vs Q E hr h=> ?_)
  · obtain ⟨y,a,x,d,f,n,rs,rfl,_⟩:=h
    rfl
  · obtain ⟨y,a,x,d,f,n,rs,rfl,D0,ok,ha,fk,C0,lr,k⟩:=h
    have p2:=ok.p2
    refine ⟨_,(pss_cons (ps_set (i:=3) sc_weaves_with.nd rfl (Or.inl rfl) (pe_makeF m_Gear hr (pa_cons (pv 0) (pa_cons (pv 1) pa_nil))))
      (pss_cons (ps_for PassesOwn.never rfl (pi_zs (K:=K) rfl (T.own _ (by decide)) (pa_cons (k_fld (K:=K) (pv 0) rfl) (pa_cons (k_fld (K:=K) (pv 2) rfl) pa_nil))) (k_gtup (K:=K) rfl (pgs_cons (pg_name (i:=4) sc_weaves_with.nd rfl (Or.inl rfl)) (pgs_cons (pg_name (i:=5) sc_weaves_with.nd rfl (Or.inl rfl)) pgs_nil))) (pss_one (ps_if (pt_cmpR op_ne (pe_methF (pv 3) d_Gear_row_of (hr.mono (by decide)) (pa_cons (pv 4) pa_nil)) (pv 5) (nomark _)) (pss_one (ps_ret pe_bl)) pss_nil)))
      (pss_one (ps_ret pe_bl)))),?_⟩
    walk_at "w"
    refine gear_mk (R:=fun g H1=>gName 3 (.ref g) _ H1 _) D0 ok ha fk fun H1 g s1 hg G1=> ?_
    obtain ⟨dy,v1,v2,v3,v4,v5,hy,_,_,r3,_,_⟩:=D0.same s1
    obtain ⟨m3,a3,vs3,em3,rfl,e3,l3,b3,el3⟩:=tup_of r3
    cases em3
    rw [List.length_map] at l3
    obtain ⟨dx,t,gx,gt⟩:=C0.same s1
    obtain ⟨dg,t1,t2,gg,_,_⟩:=id G1
    walk_at "w"
    refine ⟨_,_,_,_,_,rfl,hy,T.kd_Draft.cl,T.na_Draft_treading,rfl,?_⟩
    walk_at "w"
    refine ⟨_,_,_,_,_,rfl,gx,T.kd_Cloth.cl,T.na_Cloth_rows,rfl,?_⟩
    walk_at "w"
    refine ⟨true,true,a3,t,rfl,⟨_,SqT.of e3⟩,⟨_,SqT.of gt⟩,for_src (fs_zs (t1:=true) (t2:=true) (SqT.of e3) (SqT.of gt) (by rw [List.length_map];omega)) (fun i σ H3=>∃ u1 u2,σ=[some (.ref y),some (.ref a),some (.ref x),some (.ref g),u1,u2]∧Same H1 H3∧∀ j,j<i→rowF d f j=rs.getD j 0) ⟨_,_,rfl,Same.refl _,fun j hj=>absurd hj (Nat.not_lt_zero j)⟩ (fun i σ H3 ⟨_,_,_,s,_⟩=>s) ?_ ?_⟩
    · rintro i σ H' H3 hi ⟨u1,u2,rfl,s',hw⟩ s3
      have hi':i<d.td.length:=by omega
      have sH:=s'.trans s3
      have r:=el3 i (by simpa using hi')
      rw [getD_map dT d.td i .non [] hi'] at r
      obtain ⟨b,eb,gb,_⟩:=dT_of r
      rw [eb,getD_nat (by rw [List.length_map];omega)]
      walk_at "w"
      refine ⟨_,_,_,rfl,sH _ _ gg,rfl,?_⟩
      walk_at "w"
      refine ⟨g,d,f,b,i,rfl,G1.same sH,ok,fk,hi',SqT.of (sH _ _ gb),fun H4 s4=> ?_⟩
      walk_at "w"
      by_cases z:rowF d f i=rs.getD i 0
      · rw [z,decide_eq_true rfl]
        refine iteF ?_
        walk_at "w"
        refine ⟨_,_,rfl,sH.trans s4,fun j hj=> ?_⟩
        rcases Nat.lt_or_ge j i with q | q
        · exact hw j q
        · rw [show j=i by omega];exact z
      · rw [decide_eq_false (by omega)]
        refine iteT ?_
        walk_at "w"
        have e:wB d rs f=false:=by
          cases q:wB d rs f with
          | false=>rfl
          | true=>exact absurd ((wB_iff lr).mp q i (by omega)) z
        rw [← e]
        exact k H4 (s1.trans (sH.trans s4))
    · rintro σ H3 ⟨u1,u2,rfl,s3,hw⟩
      walk_at "w"
      have e:wB d rs f=true:=(wB_iff lr).mpr fun i hi=>hw i (by omega)
      rw [← e]
      exact k H3 (s1.trans s3)
noncomputable def sp_Draft_picks (c:Cs):Sp:=fun vs H Q _=>∃ x d,vs=[.ref x]∧DrAt c.Draft H x d∧Q (nV d.td.length) H
noncomputable abbrev s_Draft_picks:Stmt:=inClass (top 21) 3
theorem sc_Draft_picks:FnScope ["self"] ["self"] (defScope s_Draft_picks):=⟨rfl,rfl,rfl,by decide +kernel,rfl,by decide +kernel,by decide +kernel⟩
theorem ok_Draft_picks {f:Addr} {fd:FuncData} (F:Fun K "picks" "Draft.picks" s_Draft_picks f fd) (T:Txt K mg c):FnOk P w K mg base CX0 1 f fd ["self"] (sp_Draft_picks c):=by
  refine F.ok sc_Draft_picks (fun vs H Q E h=> ?_) (fun cdv A outer s H vs Q E hr h=> ?_)
  · obtain ⟨x,d,rfl,_⟩:=h
    rfl
  · obtain ⟨x,d,rfl,⟨dx,v1,v2,v3,v4,v5,hx,_,_,r3,_,_⟩,k⟩:=h
    obtain ⟨m3,a3,vs3,em3,rfl,e3,l3,b3,el3⟩:=tup_of r3
    rw [List.length_map] at l3
    refine ⟨_,(pss_one (ps_ret (pe_callB (k_len (K:=K)) rfl (T.own _ (by decide)) boot_len (pa_cons (k_fld (K:=K) (pv 0) rfl) pa_nil)))),?_⟩
    walk_at "w"
    refine ⟨_,_,_,_,_,rfl,hx,T.kd_Draft.cl,T.na_Draft_treading,rfl,?_⟩
    walk_at "w"
    refine rd_lenT (SqT.of e3) ?_
    rw [l3]
    exact k
noncomputable def fF (d:Dr) (n:Nat) (rs:List Nat):List Ft:=if d.th.length=n∧d.td.length=rs.length then (allF d).filter (wB d rs) else []
theorem allF_len {d:Dr} {f:Ft} (ok:DrOk d) (h:f∈allF d):f.2.length≤10:=by
  have:=all_FK ok h
  cases this <;> simp
theorem rng_filter {α β:Type} (l:List α) (P:α→Bool) (g:α→β) (a0:α):(((List.range l.length).filter fun i=>P (l.getD i a0)).map fun i=>g (l.getD i a0))=(l.filter P).map g:=by
  induction l with
  | nil=>rfl
  | cons a l ih=>
    rw [List.length_cons,List.range_succ_eq_map,List.filter_cons,List.filter_cons]
    have e:(((List.range l.length).map Nat.succ).filter fun i=>P ((a::l).getD i a0)).map (fun i=>g ((a::l).getD i a0))=(l.filter P).map g:=by
      rw [List.filter_map,List.map_map, ← ih]
      rfl
    show ((if P a=true then 0::_ else _):List Nat).map _=_
    by_cases h:P a=true
    · rw [if_pos h,if_pos h,List.map_cons,e]
      rfl
    · rw [if_neg h,if_neg h,e]
noncomputable def sp_found_faults (c:Cs):Sp:=fun vs H Q _=>∃ y x d n rs,vs=[.ref y, .ref x]∧DrAt c.Draft H y d∧DrOk d∧ClAt c.Cloth H x n rs∧∀ H' p ws,Same H H'→H p=none→H' p=some (.lst ws)→FsAt H' ws (fF d n rs)→ws.length≤5000→Q (.ref p) H'
noncomputable abbrev s_found_faults:Stmt:=top 54
theorem sc_found_faults:FnScope ["draft","cloth"] ["draft","cloth"] (defScope s_found_faults):=⟨rfl,rfl,rfl,by decide +kernel,rfl,by decide +kernel,by decide +kernel⟩
theorem ok_found_faults {f:Addr} {fd:FuncData} (F:Fun K "found_faults" "found_faults" s_found_faults f fd) (T:Txt K mg c) (d_Draft_ends:MethF P w K mg base c.Draft "ends" 1 ["self"] (sp_Draft_ends c)) (d_Draft_picks:MethF P w K mg base c.Draft "picks" 1 ["self"] (sp_Draft_picks c)) (d_Cloth_ends:MethF P w K mg base c.Cloth "ends" 1 ["self"] (sp_Cloth_ends c)) (d_Cloth_picks:MethF P w K mg base c.Cloth "picks" 1 ["self"] (sp_Cloth_picks c)) (c_all_faults:CallF P w K mg base "all_faults" 2 ["draft"] (sp_all_faults c)) (c_weaves_with:CallF P w K mg base "weaves_with" 8 ["draft","fault","cloth"] (sp_weaves_with c)):FnOk P w K mg base CX0 9 f fd ["draft","cloth"] (sp_found_faults c):=by
  refine F.ok sc_found_faults (fun vs H Q E h=> ?_) (fun cdv A outer s H vs Q E hr h=> ?_)
  · obtain ⟨y,x,d,n,rs,rfl,_⟩:=h
    rfl
  · obtain ⟨y,x,d,n,rs,rfl,D0,ok,C0,k⟩:=h
    obtain ⟨dy,v1,v2,v3,v4,v5,hy,_⟩:=id D0
    obtain ⟨dx,t,gx,gt⟩:=id C0
    refine ⟨_,(pss_cons (ps_if (PW.pt (pw_or (pt_cmpR op_ne (pe_methF0 (pv 0) d_Draft_ends (hr.mono (by decide))) (pe_methF0 (pv 1) d_Cloth_ends (hr.mono (by decide))) (nomark _)) (pw_or1 (pt_cmpR op_ne (pe_methF0 (pv 0) d_Draft_picks (hr.mono (by decide))) (pe_methF0 (pv 1) d_Cloth_picks (hr.mono (by decide))) (nomark _))))) (pss_one (ps_ret (pe_lst pa_nil))) pss_nil)
      (pss_one (ps_ret (pe_comp1 (k_pil (K:=K) (pe_callF c_all_faults (hr.mono (by decide)) (pa_cons (pv 0) pa_nil))) (fun _ _ _ _=>(pts_one (pt_val (pe_callF c_weaves_with hr (pa_cons (pv 2) (pa_cons (pv 0) (pa_cons (pv 1) pa_nil))))))) (fun _ _ _ _=>(pv 0)))))),?_⟩
    walk_at "w"
    refine ⟨_,_,_,rfl,hy,rfl,?_⟩
    walk_at "w"
    refine ⟨y,d,rfl,D0,?_⟩
    walk_at "w"
    refine ⟨_,_,_,rfl,gx,rfl,?_⟩
    walk_at "w"
    refine ⟨x,n,rs,rfl,C0,?_⟩
    walk_at "w"
    have no:¬ (d.th.length=n∧d.td.length=rs.length)→∀ p,H p=none→Q (.ref p) (upd H p (.lst [])):=fun h p hp=>by
      refine k _ p [] (same_new hp) hp upd_same ?_ (by decide)
      unfold fF
      rw [if_neg h]
      exact FsAt.nil _
    by_cases h1:d.th.length=n
    · rw [h1,decide_eq_true rfl]
      refine iteF ?_
      walk_at "w"
      refine ⟨_,_,_,rfl,hy,rfl,?_⟩
      walk_at "w"
      refine ⟨y,d,rfl,D0,?_⟩
      walk_at "w"
      refine ⟨_,_,_,rfl,gx,rfl,?_⟩
      walk_at "w"
      refine ⟨x,n,rs,rfl,C0,?_⟩
      walk_at "w"
      by_cases h2:d.td.length=rs.length
      · rw [h2,decide_eq_true rfl]
        refine iteF ?_
        walk_at "w"
        refine ⟨y,d,rfl,D0,ok,fun H1 q ws s1 hq gq fq lq=> ?_⟩
        walk_at "w"
        refine ⟨q,rfl,⟨_,SqL.of gq⟩,fun D hD=> ?_⟩
        have lw:ws.length=(allF d).length:=fq.item.1.trans (by simp)
        have tf:∀ i,i<(allF d).length→∃ a,ws.getD i .non= .ref a∧H1 a=some (.tup (fV ((allF d).getD i ("",[]))))∧((allF d).getD i ("",[]))∈allF d:=fun i hi=>by
          have hi2:i<ws.length:=by omega
          obtain ⟨a,e1,e2,_⟩:=fq.el i ws[i] (allF d)[i] (List.getElem?_eq_getElem hi2) (List.getElem?_eq_getElem hi)
          have e3:(allF d).getD i ("",[])=(allF d)[i]:=by rw [List.getD_eq_getElem?_getD,List.getElem?_eq_getElem hi];rfl
          refine ⟨a,?_,by rw [e3];exact e2,by rw [e3];exact List.getElem_mem hi⟩
          rw [List.getD_eq_getElem?_getD,List.getElem?_eq_getElem hi2]
          exact e1
        refine comp_data (m:=1) (p:=fun i=>wB d rs ((allF d).getD i ("",[]))) (G:=fun i=>dF ((allF d).getD i ("",[]))) (src_list (SqL.of gq) rfl) hD (by omega) ?_ ?_ ?_
        · intro i H' R hi s kk
          obtain ⟨a,ea,ga,hm⟩:=tf i (by omega)
          rw [ea]
          walk_at "w"
          refine ⟨y,a,x,d,_,n,rs,rfl,D0.same (s1.trans s),ok,s _ _ ga,all_FK ok hm,C0.same (s1.trans s),h2.symm,fun H3 s3=> ?_⟩
          exact ⟨_,rfl,kk H3 s3⟩
        · intro i H' R hi hp s kk
          obtain ⟨a,ea,ga,hm⟩:=tf i (by omega)
          rw [ea]
          walk_at "w"
          exact kk H' _ (Same.refl _) (rp_F (s _ _ ga) (allF_len ok hm))
        · intro H2 ys s2 gD r
          rw [lw,rng_filter (allF d) (wB d rs) dF ("",[])] at r
          obtain ⟨f1,f2⟩:=fs_of r gD fun f hf=>allF_len ok (List.mem_filter.mp hf).1
          have e:fF d n rs=(allF d).filter (wB d rs):=if_pos ⟨h1,h2⟩
          refine k H2 D ys (s1.trans s2) (s1.free hD) gD (by rw [e];exact f1) ?_
          have:=f1.item.1
          rw [List.length_map] at this
          have:=List.length_filter_le (wB d rs) (allF d)
          omega
      · rw [decide_eq_false (by omega)]
        refine iteT ?_
        walk_at "w"
        exact no fun q=>h2 q.2
    · rw [decide_eq_false (by omega)]
      refine iteT ?_
      walk_at "w"
      exact no fun q=>h1 q.1
end
end K31
open L2
namespace K31
open PySem L2 PySem.Spec PyProof.Rows
seal L2.PE L2.PT L2.PW L2.PA L2.PS L2.PSs L2.PI L2.PG L2.PTs L2.PGs
section
variable {P:Program} {w:World} {K:PySem.W.Frag} {mg:Str→Option Value} {base:Heap} {c:Cs}
noncomputable def FN (d:Dr) (f:Ft):Prop:=FK d f∨f=(("none":Str),([]:List Nat))
theorem FN.up_of {d:Dr} {f:Ft} (h:FN d f) (z:f.1=sU):∃ s,f=(sU,[s])∧1≤s∧s≤d.sh:=by
  rcases h with h | rfl
  · exact h.up_of z
  · exact absurd z (by decide +kernel)
theorem FN.down_of {d:Dr} {f:Ft} (h:FN d f) (z:f.1=sD):∃ s,f=(sD,[s])∧1≤s∧s≤d.sh:=by
  rcases h with h | rfl
  · exact h.down_of z
  · exact absurd z (by decide +kernel)
theorem FN.drawn_of {d:Dr} {f:Ft} (h:FN d f) (z:f.1=sW):∃ e s,f=(sW,[e,s])∧1≤e∧e≤d.th.length∧s≤d.sh:=by
  rcases h with h | rfl
  · exact h.drawn_of z
  · exact absurd z (by decide +kernel)
theorem FN.len {d:Dr} {f:Ft} (h:FN d f):f.2.length≤10:=by
  rcases h with h | rfl
  · cases h <;> simp
  · simp
theorem pw_nat (s:Nat):(1:Int)*2 ^ ((s:Nat):Int).toNat=((2 ^ s:Nat):Int):=by
  rw [Int.one_mul,Int.toNat_natCast]
  simp
theorem shr_nat (m s:Nat):((m:Nat):Int) / 2 ^ ((s:Nat):Int).toNat=((m >>> s:Nat):Int):=by
  rw [Int.toNat_natCast,Nat.shiftRight_eq_div_pow]
  push_cast
  rfl
noncomputable def sp__law_whole (K:PySem.W.Frag):Sp:=fun vs H Q _=>∃ (a:Addr) (ns:List Int),vs=[.ref a]∧SqL K H a (ns.map V.int)∧ns.length≤63∧∀ H' W,Same H H'→Q (.int W) H'
noncomputable abbrev s__law_whole:Stmt:=top 61
theorem sc__law_whole:FnScope ["_law_script"] ["_law_script"] (defScope s__law_whole):=⟨rfl,rfl,rfl,by decide +kernel,rfl,by decide +kernel,by decide +kernel⟩
theorem ok__law_whole {f:Addr} {fd:FuncData} (F:Fun K "_law_whole" "_law_whole" s__law_whole f fd) (T:Txt K mg c):FnOk P w K mg base CX0 1 f fd ["_law_script"] (sp__law_whole K):=by
  refine F.ok sc__law_whole (fun vs H Q E h=> ?_) (fun cdv A outer s H vs Q E hr h=> ?_)
  · obtain ⟨a,ns,rfl,_⟩:=h
    rfl
  · obtain ⟨a,ns,rfl,sa,hn,k⟩:=h
    refine ⟨_,(pss_one (ps_ret (pe_callB (k_sum (K:=K)) rfl (T.own _ (by decide)) boot_sum (pa_cons (pe_comp2 (K:=K) (pi_enum (K:=K) rfl (T.own _ (by decide)) (pa_cons (pv 0) pa_nil)) (fun _ _ _ _=>pts_nil) (fun _ _ _ _=>(pe_op op_mul (pe_op op_mod (pv 1) pe_int) (pe_op op_add (pv 0) pe_int)))) pa_nil)))),?_⟩
    walk_at "w"
    refine ⟨a,rfl,⟨_,sa⟩,fun D0 hD0=> ?_⟩
    refine ints_comp (G:=fun i=>ns.getD i 0%1000000007*((i:Int)+1)) (src_enum sa rfl rfl) hD0 (by rw [List.length_map];omega) ?_ ?_
    · intro i H' R hi s kk
      have b1:=Int.emod_nonneg (ns.getD i 0) (show (1000000007:Int)≠0 by decide)
      have b2:=Int.emod_lt_of_pos (ns.getD i 0) (show (0:Int)<1000000007 by decide)
      rw [getD_int hi]
      walk_at "w"
      refine rd_rI (by decide) ?_
      walk_at "w"
      refine rd_rI (.inl ⟨by omega,by omega⟩) ?_
      exact kk H' (Same.refl _)
    intro H1 s1 hl1
    walk_at "w"
    refine rd_sum (SqL.of hl1) ?_
    exact k _ _ s1
noncomputable def rSlH:V→Option Int→Option Int→Hp→VK→Prop:=fun x lo hi H Q=>∃ a xs,x= .ref a∧H a=some (.tup xs)∧∀ H' p,Same H H'→H' p=some (.tup (cutV xs lo hi))→Q (.ref p) H'
theorem k_slh {X:Cx}:SlR X rSlH:=by
  intro pins s σ H x v vl vu lo hi sl Q I rx hs pl pu h
  obtain ⟨a,xs,rfl,hx,q⟩:=h
  by_cases hw:HT.sIx xs.length 0 lo=0∧HT.sIx xs.length xs.length hi=xs.length
  · cases rx
    obtain ⟨its,r,ht,hz⟩:=I.tuple (SqT.of hx)
    have hlen:its.toArray.size=xs.length:=by rw [List.size_toArray];exact r.length.symm
    refine ⟨"tuple",_,PyProof.Rows.slot_tuple_getitem.lookup,ht.typeIs,?_⟩
    refine HT.getItem_tuple_whole ht hs pl pu (by rw [hlen];exact hw.1) (by rw [hlen];exact hw.2) ?_
    have e:cutV xs lo hi=xs:=by
      unfold cutV
      rw [hw.1,hw.2,List.drop_zero,Nat.sub_zero,List.take_of_length_le (Nat.le_refl _)]
    exact ⟨.ref a,H,I,rfl,q H a (Same.refl _) (by rw [e];exact hx)⟩
  · exact sl_tup pins s σ H _ v vl vu lo hi sl Q I rx hs pl pu ⟨a,xs,rfl,SqT.of hx,hw,fun p hp=>q _ p (same_new hp) upd_same⟩
theorem tie_eq {d:Dr} {f:Ft} {t s:Nat}:tieF d f t s=if f.2=[t,s]∧(f.1=sL∨f.1=sT) then decide (f.1=sT) else decide (s∈d.ti.getD (t - 1) []):=by
  unfold tieF
  obtain ⟨z,ns⟩:=f
  by_cases h1:((z,ns):Ft)=(sL,[t,s])
  · cases h1
    rw [if_pos rfl,if_pos ⟨rfl, .inl rfl⟩]
    exact (decide_eq_false (show ¬ sL=sT by decide +kernel)).symm
  · rw [if_neg h1]
    by_cases h2:((z,ns):Ft)=(sT,[t,s])
    · cases h2
      rw [if_pos rfl,if_pos ⟨rfl, .inr rfl⟩]
      exact (decide_eq_true rfl).symm
    · rw [if_neg h2,if_neg]
      rintro ⟨q1,q2 | q2⟩
      · exact h1 (by rw [show ns=[t,s] from q1,show z=sL from q2])
      · exact h2 (by rw [show ns=[t,s] from q1,show z=sT from q2])
theorem or_pow (n s i:Nat):(n ||| 2 ^ s).testBit i=(n.testBit i||decide (s=i)):=by
  rw [Nat.testBit_or,Nat.testBit_two_pow]
theorem any_take {g:Nat→Bool} {xs:List Nat} {i:Nat} (h:i<xs.length):(xs.take (i+1)).any g=((xs.take i).any g||g (xs.getD i 0)):=by
  rw [List.take_succ,List.any_append,List.getElem?_eq_getElem h,List.getD_eq_getElem?_getD,List.getElem?_eq_getElem h]
  simp
noncomputable def sp__law_lifted:Sp:=fun vs H Q _=>∃ v d a f p,vs=[v, .ref a,nV p]∧Rp H FT 3 v (dDr d)∧DrOk d∧H a=some (.tup (fV f))∧FN d f∧p<d.td.length∧∀ H' F,Same H H'→(∀ s,1≤s→s≤d.sh→F.testBit s=lifF d f p s)→Q (nV F) H'
noncomputable abbrev s__law_lifted:Stmt:=top 63
theorem sc__law_lifted:FnScope ["_law_told","_law_fault","_law_pick","_law_found","_law_treadle","_law_shaft","_law_is_tied"] ["_law_told","_law_fault","_law_pick"] (defScope s__law_lifted):=⟨rfl,rfl,rfl,by decide +kernel,rfl,by decide +kernel,by decide +kernel⟩
theorem ok__law_lifted {f:Addr} {fd:FuncData} (F:Fun K "_law_lifted" "_law_lifted" s__law_lifted f fd) (T:Txt K mg c):FnOk P w K mg base CX0 1 f fd ["_law_told","_law_fault","_law_pick"] sp__law_lifted:=by
  refine F.ok sc__law_lifted (fun vs H Q E h=> ?_) (fun cdv A outer s H vs Q E hr h=> ?_)
  · obtain ⟨v,d,a,f,p,rfl,_⟩:=h
    rfl
  · obtain ⟨v,d,fa,f,p,rfl,rv,ok,hf,fn,hp,k⟩:=h
    obtain ⟨m,a,v0,v1,v2,v3,v4,v5,v6,em,rfl,ha,q0,q1,q2,q3,q4,q5,q6⟩:=tup7_of rv
    cases em
    cases q0
    cases q1
    have s1:=ok.s1
    have s2:=ok.s2
    have t2:=ok.t2
    have il:=ok.il
    obtain ⟨m4,a4,vs4,em4,rfl,ha4,hf4,hl4,hb4,el4⟩:=lst_of q4
    cases em4
    rw [List.length_map] at hl4
    obtain ⟨b,eb,hb,_,_⟩:=dL_of (by have r1:=el4 p (by simpa using hp)
                                    rw [getD_map dL d.td p .non [] hp] at r1
                                    exact r1)
    obtain ⟨m3,a3,vs3,em3,rfl,ha3,hf3,hl3,hb3,el3⟩:=lst_of q3
    cases em3
    rw [List.length_map] at hl3
    have ti:∀ j,j<d.ti.length→∃ b,vs3.getD j .non= .ref b∧H b=some (.lst ((d.ti.getD j []).map nV)):=fun j hj=>by
      have r1:=el3 j (by simpa using hj)
      rw [getD_map dL d.ti j .non [] hj] at r1
      obtain ⟨b,eb,hb,_,_⟩:=dL_of r1
      exact ⟨b,eb,hb⟩
    have tdr:=(ok.pr _ (getD_mem (y:=[]) hp)).le
    refine ⟨_,(pss_cons (ps_set (i:=3) sc__law_lifted.nd rfl (Or.inl rfl) pe_int)
      (pss_cons (ps_for PassesOwn.never rfl (k_pil (K:=K) (pe_ix (k_ixl (K:=K)) (pe_ix (k_ixt (K:=K)) (pv 0) pe_int (fun _ _=>rfl)) (pv 2) (fun _ _=>rfl))) (pg_name (i:=4) sc__law_lifted.nd rfl (Or.inl rfl)) (pss_one (ps_for PassesOwn.never rfl (pi_range2 rfl (T.own _ (by decide)) (pa_cons pe_int (pa_cons (pe_op op_add (pe_ix (k_ixt (K:=K)) (pv 0) pe_int (fun _ _=>rfl)) pe_int) pa_nil))) (pg_name (i:=5) sc__law_lifted.nd rfl (Or.inl rfl)) (pss_cons (ps_set (i:=6) sc__law_lifted.nd rfl (Or.inl rfl) (pe_cmpR (k_in (K:=K)) (pv 5) (pe_ix (k_ixl (K:=K)) (pe_ix (k_ixt (K:=K)) (pv 0) pe_int (fun _ _=>rfl)) (pe_op op_sub (pv 4) pe_int) (fun _ _=>rfl)) (by with_unfolding_all rfl)))
      (pss_cons (ps_if (PW.pt (pw_and (pt_cmpR (op_eqD hr.units) (pe_slice k_slh (pv 1) (po_some pe_int) po_none) (pe_tup (pa_cons (pv 4) (pa_cons (pv 5) pa_nil))) (nomark _)) (pw_and1 (pt_cmpR (k_in (K:=K)) (pe_ix (k_ixt (K:=K)) (pv 1) pe_int (fun _ _=>rfl)) (pe_tup (pa_cons pe_str (pa_cons pe_str pa_nil))) (by with_unfolding_all rfl))))) (pss_one (ps_set (i:=6) sc__law_lifted.nd rfl (Or.inl rfl) (pe_cmpR op_eq (pe_ix (k_ixt (K:=K)) (pv 1) pe_int (fun _ _=>rfl)) pe_str (nomark _)))) pss_nil)
      (pss_one (ps_if (pt_val (pv 6)) (pss_one (ps_set (i:=3) sc__law_lifted.nd rfl (Or.inl rfl) (pe_op op_or (pv 3) (pe_op op_shl pe_int (pv 5))))) pss_nil)))))))
      (pss_cons (ps_if (pt_cmpR op_eq (pe_ix (k_ixt (K:=K)) (pv 1) pe_int (fun _ _=>rfl)) pe_str (nomark _)) (pss_one (ps_set (i:=3) sc__law_lifted.nd rfl (Or.inl rfl) (pe_op op_or (pv 3) (pe_op op_shl pe_int (pe_ix (k_ixt (K:=K)) (pv 1) pe_int (fun _ _=>rfl)))))) pss_nil)
      (pss_cons (ps_if (pt_cmpR op_eq (pe_ix (k_ixt (K:=K)) (pv 1) pe_int (fun _ _=>rfl)) pe_str (nomark _)) (pss_one (ps_set (i:=3) sc__law_lifted.nd rfl (Or.inl rfl) (pe_op op_and (pv 3) (pe_un un_inv (pe_op op_shl pe_int (pe_ix (k_ixt (K:=K)) (pv 1) pe_int (fun _ _=>rfl))))))) pss_nil)
      (pss_one (ps_ret (pv 3))))))),?_⟩
    walk_at "w"
    refine rd_ixT (SqT.of ha) (atI_nat (j:=4) rfl) ?_
    walk_at "w"
    refine rd_ixL (SqL.of ha4) (atI_get' (j:=p) (by omega) (by omega)) ?_
    rw [eb]
    walk_at "w"
    have ltd:(d.td.getD p []).length≤16:=Nat.le_trans (rise_len (ok.pr _ (getD_mem (y:=[]) hp))) t2
    refine ⟨b,rfl,⟨_,SqL.of hb⟩,for_src (fs_list (SqL.of hb)) (fun i σ H3=>∃ (F:Nat) (u1 u2 u3:Option V),σ=[some (.ref a),some (.ref fa),some (nV p),some (nV F),u1,u2,u3]∧Same H H3∧∀ s,1≤s→s≤d.sh→F.testBit s=((d.td.getD p []).take i).any fun t=>tieF d f t s) ⟨0,_,_,_,rfl,Same.refl _,fun s _ _=>by simp⟩ (fun i σ H3 ⟨_,_,_,_,_,s,_⟩=>s) ?_ ?_⟩
    · rintro i σ H3 H4 hi ⟨F,u1,u2,u3,rfl,s3,hF⟩ s34
      have s04:=s3.trans s34
      rw [getD_nat hi]
      rw [List.length_map] at hi
      generalize et:(d.td.getD p []).getD i 0=t
      have htd:=tdr t (by rw [← et];exact getD_mem hi)
      obtain ⟨c,ec,hc⟩:=ti (t - 1) (by omega)
      walk_at "w"
      refine rd_ixT (SqT.of (s04 _ _ ha)) (atI_nat (j:=0) rfl) ?_
      walk_at "w"
      refine ⟨_,_,rfl,⟨by omega,by omega,by omega,by omega⟩,?_⟩
      rw [show (((d.sh:Nat):Int)+1 - 1).toNat=d.sh by omega]
      refine for_src (fs_range (lo:=1) (n:=d.sh)) (fun j σ H5=>∃ (G:Nat) (u2 u3:Option V),σ=[some (.ref a),some (.ref fa),some (nV p),some (nV G),some (nV t),u2,u3]∧Same H4 H5∧∀ s,1≤s→s≤d.sh→G.testBit s=(F.testBit s||(decide (s≤j)&&tieF d f t s))) ⟨F,_,_,rfl,Same.refl _,fun s h _=>by rw [decide_eq_false (by omega)];simp⟩ (fun i σ H5 ⟨_,_,_,_,s,_⟩=>s) ?_ ?_
      · rintro j σ H5 H6 hj ⟨G,u2,u3,rfl,s5,hG⟩ s56
        have s06:=s04.trans (s5.trans s56)
        rw [show ((1:Int)+(j:Nat))=((j+1:Nat):Int) by omega]
        walk_at "v"
        refine rd_ixT (SqT.of (s06 _ _ ha)) (atI_nat (j:=3) rfl) ?_
        walk_at "v"
        refine rd_ixL (SqL.of (s06 _ _ ha3)) (atI_get' (j:=t - 1) (by omega) (by omega)) ?_
        rw [ec]
        walk_at "v"
        refine rd_inN (s:=j+1) (tp:=false) (SqL.of (s06 _ _ hc)) ?_
        walk_at "v"
        refine ifJ (fun σ H7=>σ=[some (.ref a),some (.ref fa),some (nV p),some (nV G),some (nV t),some (nV (j+1)),some (.bl (tieF d f t (j+1)))]∧Same H6 H7) ?_ ?_
        · rintro σ H7 ⟨rfl,s67⟩
          walk_at "w"
          refine iteC (fun ht=> ?_) (fun ht=> ?_)
          · walk_at "w"
            refine rd_rI ⟨by omega,by omega,by decide⟩ ?_
            walk_at "w"
            rw [pw_nat,bO]
            refine ⟨G ||| 2 ^ (j+1),_,_,rfl,s5.trans (s56.trans s67),fun s h1 h2=> ?_⟩
            rw [or_pow,hG s h1 h2]
            by_cases z:j+1=s
            · rw [decide_eq_true z,Bool.or_true,decide_eq_true (show s≤j+1 by omega), ← z,ht]
              simp
            · rw [decide_eq_false z,Bool.or_false,show decide (s≤j+1)=decide (s≤j) by rw [decide_eq_decide];omega]
          · walk_at "w"
            refine ⟨G,_,_,rfl,s5.trans (s56.trans s67),fun s h1 h2=> ?_⟩
            rw [hG s h1 h2]
            by_cases z:j+1=s
            · rw [← z,ht,Bool.and_false,Bool.and_false]
            · rw [show decide (s≤j+1)=decide (s≤j) by rw [decide_eq_decide];omega]
        · intro key
          walk_at "w"
          refine ⟨fa,_,rfl,s06 _ _ hf,fun H7 q7 s67 hq7=> ?_⟩
          rw [cut_from (by decide)] at hq7
          have hq7:H7 q7=some (.tup (f.2.map nV)):=hq7
          walk_at "w"
          intro q8 hq8
          have s78:=same_new (o:=HO.tup [nV t,nV (j+1)]) hq8
          have gq8:upd H7 q8 (HO.tup [nV t,nV (j+1)]) q8=some (.tup ([t,j+1].map nV)):=upd_same
          show rEqD false (V.ref q7) (V.ref q8) (upd H7 q8 (HO.tup [nV t,nV (j+1)])) _
          generalize upd H7 q8 (HO.tup [nV t,nV (j+1)])=H8 at s78 gq8 ⊢
          have s08:=s06.trans (s67.trans s78)
          refine ⟨1,dT f.2,dT [t,j+1],by decide,rp_T (s78 _ _ hq7) (by have:=fn.len;omega),rp_T gq8 (by simp),rfl,?_⟩
          rw [eqD_dT]
          walk_at "w"
          have s68:=s67.trans s78
          refine iteP (fun h1=> ?_) (fun h1=> ?_)
          · walk_at "w"
            refine rd_ixT (SqT.of (s08 _ _ hf)) (at_f0 f) ?_
            walk_at "w"
            intro q9 hq9
            have s89:=same_new (o:=HO.tup [.str sL, .str sT]) hq9
            have gq9:upd H8 q9 (HO.tup [.str sL, .str sT]) q9=_:=upd_same
            generalize upd H8 q9 (HO.tup [.str sL, .str sT])=H9 at s89 gq9 ⊢
            walk_at "w"
            refine ⟨q9,_,rfl, .inr (SqT.of gq9),rfl,rfl,?_⟩
            rw [if_neg (by decide),in_two]
            walk_at "w"
            refine iteC (fun h2=> ?_) (fun h2=> ?_)
            · have h3:f.1=sL∨f.1=sT:=by
                rcases Bool.or_eq_true_iff.mp h2 with q | q
                · exact .inl (of_decide_eq_true q).symm
                · exact .inr (of_decide_eq_true q).symm
              walk_at "w"
              refine rd_ixT (SqT.of (s89 _ _ (s08 _ _ hf))) (at_f0 f) ?_
              walk_at "v"
              refine key _ _ ⟨?_,s68.trans s89⟩
              rw [tie_eq,if_pos ⟨h1,h3⟩]
              rfl
            · walk_at "v"
              refine key _ _ ⟨?_,s68.trans s89⟩
              rw [Bool.or_eq_false_iff] at h2
              rw [tie_eq,if_neg (fun q=>q.2.elim (fun z=>absurd z.symm (of_decide_eq_false h2.1)) (fun z=>absurd z.symm (of_decide_eq_false h2.2)))]
              rfl
          · walk_at "v"
            refine key _ _ ⟨?_,s68⟩
            rw [tie_eq,if_neg (fun q=>h1 q.1)]
            rfl
      · rintro σ H5 ⟨G,u2,u3,rfl,s5,hG⟩
        walk_at "w"
        refine ⟨G,_,_,_,rfl,s04.trans s5,fun s h1 h2=> ?_⟩
        rw [hG s h1 h2,hF s h1 h2,decide_eq_true h2,Bool.true_and,any_take hi,et]
    · rintro σ H3 ⟨F,u1,u2,u3,rfl,s3,hF⟩
      rw [List.length_map,List.take_length] at hF
      walk_at "w"
      refine rd_ixT (SqT.of (s3 _ _ hf)) (at_f0 f) ?_
      walk_at "w"
      refine iteP (fun h1=> ?_) (fun h1=> ?_)
      · obtain ⟨u,rfl,u1,u2⟩:=fn.up_of h1
        walk_at "w"
        refine rd_ixT (SqT.of (s3 _ _ hf)) (show atI (fV (sU,[u])) 1=some (nV u) from rfl) ?_
        walk_at "w"
        refine rd_rI ⟨by omega,by omega,by decide⟩ ?_
        walk_at "w"
        rw [pw_nat,bO]
        refine rd_ixT (SqT.of (s3 _ _ hf)) (at_f0 _) ?_
        walk_at "w"
        refine iteP (fun h2=>absurd (show sU=sD from h2) (by decide +kernel)) (fun _=> ?_)
        walk_at "w"
        refine k H3 _ s3 fun s h1 h2=> ?_
        rw [or_pow,hF s h1 h2]
        unfold lifF
        rw [if_neg (fun q=>absurd (show sU=sD from congrArg Prod.fst q) (by decide +kernel))]
        by_cases z:u=s
        · rw [if_pos (by rw [z]),decide_eq_true z,Bool.or_true]
        · rw [if_neg (fun q=>z (by injection q with _ q;injection q)),decide_eq_false z,Bool.or_false]
      · walk_at "w"
        refine rd_ixT (SqT.of (s3 _ _ hf)) (at_f0 _) ?_
        walk_at "w"
        refine iteP (fun h2=> ?_) (fun h2=> ?_)
        · obtain ⟨u,rfl,u1,u2⟩:=fn.down_of h2
          walk_at "w"
          refine rd_ixT (SqT.of (s3 _ _ hf)) (show atI (fV (sD,[u])) 1=some (nV u) from rfl) ?_
          walk_at "w"
          refine rd_rI ⟨by omega,by omega,by decide⟩ ?_
          walk_at "w"
          rw [pw_nat,and_not]
          refine k H3 _ s3 fun s h1 h2=> ?_
          rw [and_not_bit,hF s h1 h2,Nat.testBit_two_pow]
          unfold lifF
          by_cases z:u=s
          · rw [if_pos (by rw [z]),decide_eq_true z]
            simp
          · rw [if_neg (fun q=>z (by injection q with _ q;injection q)),if_neg (fun q=>absurd (show sD=sU from congrArg Prod.fst q) (by decide +kernel)),decide_eq_false z]
            simp
        · walk_at "w"
          refine k H3 _ s3 fun s h3 h4=> ?_
          rw [hF s h3 h4]
          unfold lifF
          rw [if_neg (fun q=>h2 (by rw [q])),if_neg (fun q=>h1 (by rw [q]))]
end
end K31
open L2
namespace K31
open PySem L2 PySem.Spec PyProof.Rows
seal L2.PE L2.PT L2.PW L2.PA L2.PS L2.PSs L2.PI L2.PG L2.PTs L2.PGs
section
variable {P:Program} {w:World} {K:PySem.W.Frag} {mg:Str→Option Value} {base:Heap} {c:Cs}
theorem eqD_dF (f g:Ft):eqD (dF f) (dF g)=decide (f=g):=by
  have e:eqD (dF f) (dF g)=(decide (f.1=g.1)&&eqDs (f.2.map dN) (g.2.map dN)):=rfl
  rw [e,eqDs_dN, ← Bool.decide_and,decide_eq_decide]
  exact ⟨fun h=>Prod.ext h.1 h.2,fun h=>by rw [h];exact ⟨rfl,rfl⟩⟩
noncomputable def drF (d:Dr) (f:Ft) (e:Nat):Nat:=if f.1=sW∧f.2.getD 0 0=e+1 then f.2.getD 1 0 else d.th.getD e 0
theorem drF_le {d:Dr} {f:Ft} (ok:DrOk d) (fn:FN d f) {e:Nat} (h:e<d.th.length):drF d f e≤d.sh:=by
  unfold drF
  split
  · rename_i z
    obtain ⟨x,s,rfl,_,_,hs⟩:=fn.drawn_of z.1
    exact hs
  · exact ok.hs _ (getD_mem h)
theorem up_eq {d:Dr} {f:Ft} {F p e:Nat} (hF:∀ s,1≤s→s≤d.sh→F.testBit s=lifF d f p s) (h:drF d f e≤d.sh):upF d f p e=(F.testBit (drF d f e)&&(decide (0<drF d f e)&& !decide (f=(sB,[e+1])))):=by
  have e1:thF d f e=if f=(sB,[e+1]) then 0 else drF d f e:=rfl
  unfold upF
  rw [e1]
  by_cases z:f=(sB,[e+1])
  · rw [if_pos z,decide_eq_true z]
    simp
  · rw [if_neg z,decide_eq_false z]
    by_cases y:0<drF d f e
    · rw [decide_eq_true y,hF _ y h]
      simp
    · rw [decide_eq_false y]
      simp
theorem fV_two (f:Ft):(fV f).take 2=fV (f.1,f.2.take 1):=by
  unfold fV
  show V.str f.1::(f.2.map nV).take 1=_
  rw [List.map_take]
theorem two_eq {f:Ft} {e:Nat}:((f.1,f.2.take 1):Ft)=(sW,[e+1])↔f.1=sW∧f.2.getD 0 0=e+1:=by
  obtain ⟨z,ns⟩:=f
  cases ns with
  | nil=>constructor
         · intro h;injection h with _ h;cases h
         · rintro ⟨_,h⟩;cases h
  | cons n ns=>constructor
               · intro h;injection h with h1 h;injection h with h;exact ⟨h1,h⟩
               · rintro ⟨h1,h⟩
                 have h:n=e+1:=h
                 have h1:z=sW:=h1
                 rw [h,h1]
                 rfl
noncomputable def sp__law_row:Sp:=fun vs H Q _=>∃ v d a f p,vs=[v, .ref a,nV p]∧Rp H FT 3 v (dDr d)∧DrOk d∧H a=some (.tup (fV f))∧FN d f∧p<d.td.length∧∀ H',Same H H'→Q (nV (rowF d f p)) H'
noncomputable abbrev s__law_row:Stmt:=top 64
theorem sc__law_row:FnScope ["_law_told","_law_fault","_law_pick","_law_lifted_here","_law_row_here","_law_end","_law_shaft"] ["_law_told","_law_fault","_law_pick"] (defScope s__law_row):=⟨rfl,rfl,rfl,by decide +kernel,rfl,by decide +kernel,by decide +kernel⟩
theorem ok__law_row {f:Addr} {fd:FuncData} (F:Fun K "_law_row" "_law_row" s__law_row f fd) (T:Txt K mg c) (c__law_lifted:CallF P w K mg base "_law_lifted" 1 ["_law_told","_law_fault","_law_pick"] sp__law_lifted):FnOk P w K mg base CX0 2 f fd ["_law_told","_law_fault","_law_pick"] sp__law_row:=by
  refine F.ok sc__law_row (fun vs H Q E h=> ?_) (fun cdv A outer s H vs Q E hr h=> ?_)
  · obtain ⟨v,d,a,f,p,rfl,_⟩:=h
    rfl
  · obtain ⟨v,d,fa,f,p,rfl,rv,ok,hf,fn,hp,k⟩:=h
    obtain ⟨m,a,v0,v1,v2,v3,v4,v5,v6,em,rfl,ha,q0,q1,q2,q3,q4,q5,q6⟩:=tup7_of rv
    cases em
    obtain ⟨b2,rfl,e2,_,_⟩:=dL_of q2
    have h2:=ok.h2
    refine ⟨_,(pss_cons (ps_set (i:=3) sc__law_row.nd rfl (Or.inl rfl) (pe_callF c__law_lifted hr (pa_cons (pv 0) (pa_cons (pv 1) (pa_cons (pv 2) pa_nil)))))
      (pss_cons (ps_set (i:=4) sc__law_row.nd rfl (Or.inl rfl) pe_int)
      (pss_cons (ps_for PassesOwn.never rfl (pi_enum (K:=K) rfl (T.own _ (by decide)) (pa_cons (pe_ix (k_ixt (K:=K)) (pv 0) pe_int (fun _ _=>rfl)) pa_nil)) (k_gtup (K:=K) rfl (pgs_cons (pg_name (i:=5) sc__law_row.nd rfl (Or.inl rfl)) (pgs_cons (pg_name (i:=6) sc__law_row.nd rfl (Or.inl rfl)) pgs_nil))) (pss_cons (ps_if (pt_cmpR (op_eqD hr.units) (pe_slice k_slh (pv 1) po_none (po_some pe_int)) (pe_tup (pa_cons pe_str (pa_cons (pe_op op_add (pv 5) pe_int) pa_nil))) (nomark _)) (pss_one (ps_set (i:=6) sc__law_row.nd rfl (Or.inl rfl) (pe_ix (k_ixt (K:=K)) (pv 1) pe_int (fun _ _=>rfl)))) pss_nil)
      (pss_one (ps_if (PW.pt (pw_and (pt_cmpR op_eq (pe_op op_and (pe_op op_shr (pv 3) (pv 6)) pe_int) pe_int (nomark _)) (pw_and (pt_cmpR op_gt (pv 6) pe_int (nomark _)) (pw_and1 (pt_cmpR (op_neD hr.units) (pv 1) (pe_tup (pa_cons pe_str (pa_cons (pe_op op_add (pv 5) pe_int) pa_nil))) (nomark _)))))) (pss_one (ps_set (i:=4) sc__law_row.nd rfl (Or.inl rfl) (pe_op op_add (pv 4) (pe_op op_shl pe_int (pv 5))))) pss_nil))))
      (pss_one (ps_ret (pv 4)))))),?_⟩
    walk_at "w"
    refine ⟨_,d,fa,f,p,rfl,rv,ok,hf,fn,hp,fun H1 F s1 hF=> ?_⟩
    walk_at "w"
    refine rd_ixT (SqT.of (s1 _ _ ha)) (atI_nat (j:=2) rfl) ?_
    walk_at "w"
    have g2:=s1 _ _ e2
    refine ⟨b2,rfl,⟨_,SqL.of g2⟩,for_src (fs_enum (SqL.of g2)) (fun i σ H3=>∃ (u1 u2:Option V),σ=[some (.ref a),some (.ref fa),some (nV p),some (nV F),some (nV (MM.ofB (upF d f p) i)),u1,u2]∧Same H1 H3) ⟨_,_,rfl,Same.refl _⟩ (fun i σ H3 ⟨_,_,_,s⟩=>s) ?_ ?_⟩
    · rintro e σ H3 H4 he ⟨u1,u2,rfl,s3⟩ s34
      have s14:=s3.trans s34
      have s04:=s1.trans s14
      rw [getD_nat he]
      rw [List.length_map] at he
      have hle:=drF_le ok fn he
      have hup:=up_eq (e:=e) hF hle
      walk_at "v"
      refine ifJ (fun σ H7=>σ=[some (.ref a),some (.ref fa),some (nV p),some (nV F),some (nV (MM.ofB (upF d f p) e)),some (nV e),some (nV (drF d f e))]∧Same H4 H7) ?_ ?_
      · rintro σ H7 ⟨rfl,s47⟩
        have s17:=s14.trans s47
        have f7:=s47 _ _ (s04 _ _ hf)
        generalize drF d f e=s at hle hup ⊢
        have no:upF d f p e=false→∀ H8,Same H7 H8→∃ (u1 u2:Option V),([some (.ref a),some (.ref fa),some (nV p),some (nV F),some (nV (MM.ofB (upF d f p) e)),some (nV e),some (nV s)]:L2.St)=[some (.ref a),some (.ref fa),some (nV p),some (nV F),some (nV (MM.ofB (upF d f p) (e+1))),u1,u2]∧Same H1 H8:=fun h H8 s8=>⟨_,_,by rw [ofB_f h],s17.trans s8⟩
        walk_at "w"
        refine rd_rI (by show (0:Int)≤_;omega) ?_
        rw [shr_nat]
        walk_at "w"
        rw [show (1:Int)=((1:Nat):Int) from rfl,bA,Nat.and_one_is_mod,Nat.shiftRight_eq_div_pow,MM.bit_div]
        have e2:decide (((F.testBit s).toNat:Int)=((1:Nat):Int))=F.testBit s:=by
          cases F.testBit s <;> rfl
        rw [e2]
        walk_at "w"
        refine iteC (fun z1=> ?_) (fun z1=> ?_)
        · walk_at "w"
          refine iteP (fun z2=> ?_) (fun z2=> ?_)
          · have z2:0<s:=by omega
            walk_at "w"
            intro q8 hq8
            have s78:=same_new (o:=HO.tup (fV (sB,[e+1]))) hq8
            have gq8:upd H7 q8 (HO.tup (fV (sB,[e+1]))) q8=_:=upd_same
            show rEqD true (V.ref fa) (V.ref q8) (upd H7 q8 (HO.tup (fV (sB,[e+1])))) _
            generalize upd H7 q8 (HO.tup (fV (sB,[e+1])))=H8 at s78 gq8 ⊢
            refine ⟨1,dF f,dF (sB,[e+1]),by decide,rp_F (s78 _ _ f7) fn.len,rp_F gq8 (by simp),rfl,?_⟩
            rw [if_pos rfl,eqD_dF]
            walk_at "w"
            refine iteN (fun z3=> ?_) (fun z3=> ?_)
            · walk_at "w"
              refine rd_rI ⟨by omega,by omega,by decide⟩ ?_
              walk_at "w"
              have up:upF d f p e=true:=by rw [hup,z1,decide_eq_true z2,decide_eq_false z3];rfl
              rw [show ((1:Nat):Int)*2 ^ ((e:Nat):Int).toNat=((2 ^ e:Nat):Int) from pw_nat e]
              refine ⟨some (nV e),some (nV s),?_,s17.trans s78⟩
              rw [ofB_t up]
              rfl
            · walk_at "w"
              exact no (by rw [hup,decide_eq_true z3];simp) _ s78
          · walk_at "w"
            exact no (by rw [hup,decide_eq_false (show ¬ 0<s by omega)];simp) _ (Same.refl _)
        · walk_at "w"
          exact no (by rw [hup,z1];simp) _ (Same.refl _)
      · intro key
        walk_at "w"
        refine ⟨fa,_,rfl,s04 _ _ hf,fun H7 q7 s47 hq7=> ?_⟩
        rw [cut_to (by decide),show (2:Int).toNat=2 from rfl,fV_two] at hq7
        walk_at "w"
        intro q8 hq8
        have s78:=same_new (o:=HO.tup (fV (sW,[e+1]))) hq8
        have gq8:upd H7 q8 (HO.tup (fV (sW,[e+1]))) q8=_:=upd_same
        show rEqD false (V.ref q7) (V.ref q8) (upd H7 q8 (HO.tup (fV (sW,[e+1])))) _
        generalize upd H7 q8 (HO.tup (fV (sW,[e+1])))=H8 at s78 gq8 ⊢
        have s48:=s47.trans s78
        refine ⟨1,dF (f.1,f.2.take 1),dF (sW,[e+1]),by decide,rp_F (s78 _ _ hq7) (by simp;omega),rp_F gq8 (by simp),rfl,?_⟩
        rw [if_neg (by decide),eqD_dF]
        walk_at "w"
        refine iteP (fun h1=> ?_) (fun h1=> ?_)
        · rw [two_eq] at h1
          obtain ⟨x,s,rfl,_,_,hs⟩:=fn.drawn_of h1.1
          walk_at "v"
          refine rd_ixT (SqT.of (s48 _ _ (s04 _ _ hf))) (show atI (fV (sW,[x,s])) 2=some (nV s) from rfl) ?_
          walk_at "v"
          refine key _ _ ⟨?_,s48⟩
          unfold drF
          rw [if_pos h1]
          rfl
        · rw [two_eq] at h1
          walk_at "v"
          refine key _ _ ⟨?_,s48⟩
          unfold drF
          rw [if_neg h1]
          rfl
    · rintro σ H3 ⟨u1,u2,rfl,s3⟩
      rw [List.length_map]
      walk_at "w"
      exact k H3 (s1.trans s3)
noncomputable def sp__law_rows:Sp:=fun vs H Q _=>∃ v d a f,vs=[v, .ref a]∧Rp H FT 3 v (dDr d)∧DrOk d∧H a=some (.tup (fV f))∧FN d f∧∀ H' l,Same H H'→H l=none→H' l=some (.lst (((List.range d.td.length).map (rowF d f)).map nV))→Q (.ref l) H'
noncomputable abbrev s__law_rows:Stmt:=top 65
theorem sc__law_rows:FnScope ["_law_told","_law_fault"] ["_law_told","_law_fault"] (defScope s__law_rows):=⟨rfl,rfl,rfl,by decide +kernel,rfl,by decide +kernel,by decide +kernel⟩
theorem ok__law_rows {f:Addr} {fd:FuncData} (F:Fun K "_law_rows" "_law_rows" s__law_rows f fd) (T:Txt K mg c) (c__law_row:CallF P w K mg base "_law_row" 2 ["_law_told","_law_fault","_law_pick"] sp__law_row):FnOk P w K mg base CX0 3 f fd ["_law_told","_law_fault"] sp__law_rows:=by
  refine F.ok sc__law_rows (fun vs H Q E h=> ?_) (fun cdv A outer s H vs Q E hr h=> ?_)
  · obtain ⟨v,d,a,f,rfl,_⟩:=h
    rfl
  · obtain ⟨v,d,fa,f,rfl,rv,ok,hf,fn,k⟩:=h
    obtain ⟨m,a,v0,v1,v2,v3,v4,v5,v6,em,rfl,ha,q0,q1,q2,q3,q4,q5,q6⟩:=tup7_of rv
    cases em
    obtain ⟨m4,a4,vs4,em4,rfl,ha4,hf4,hl4,hb4,el4⟩:=lst_of q4
    rw [List.length_map] at hl4
    have p2:=ok.p2
    refine ⟨_,(pss_one (ps_ret (pe_comp1 (pi_range1 rfl (T.own _ (by decide)) (pa_cons (pe_callB (k_len (K:=K)) rfl (T.own _ (by decide)) boot_len (pa_cons (pe_ix (k_ixt (K:=K)) (pv 0) pe_int (fun _ _=>rfl)) pa_nil)) pa_nil)) (fun _ _ _ _=>pts_nil) (fun _ _ _ _=>(pe_callF c__law_row hr (pa_cons (pv 2) (pa_cons (pv 1) (pa_cons (pv 0) pa_nil)))))))),?_⟩
    walk_at "w"
    refine rd_ixT (SqT.of ha) (atI_nat (j:=4) rfl) ?_
    walk_at "w"
    refine rd_lenL (SqL.of ha4) ?_
    rw [hl4]
    walk_at "w"
    refine ⟨_,rfl,by omega,by omega,fun D hD=> ?_⟩
    rw [Int.toNat_natCast]
    refine ints_comp (G:=fun i=>((rowF d f i:Nat):Int)) (src_range0 rfl) hD (by omega) ?_ ?_
    · intro i H' R hi s kk
      walk_at "w"
      exact ⟨_,d,fa,f,i,rfl,rv.same s,ok,s _ _ hf,fn,hi,fun H3 s3=>kk H3 s3⟩
    · intro H' s gl
      rw [nats_L] at gl
      exact k H' D s hD gl
end
end K31
open L2
namespace K31
open PySem L2 PySem.Spec PyProof.Rows
seal L2.PE L2.PT L2.PW L2.PA L2.PS L2.PSs L2.PI L2.PG L2.PTs L2.PGs
section
variable {P:Program} {w:World} {K:PySem.W.Frag} {mg:Str→Option Value} {base:Heap} {c:Cs}
theorem op_notinX {X:Cx} (hu:X.A.units+64<cLine):OpR X (compareOp .NotIn) (rInX true):=by
  intro pins s σ H x y v u Q I rx ry h
  obtain ⟨p,vs,ds,n,Y,rfl,hp,hn,l,el,rX,ok,q⟩:=h
  obtain rfl:u=Value.ref p:=ry
  rcases hp with hp | hp
  · obtain ⟨its,r,pl,hz⟩:=I.list (SqL.of hp)
    obtain ⟨e,he,ha⟩:=in_core I hu hn l el rX ok rx r
    refine SeqAt.notIn_listAt e pl.isList (fun w hw=>he w (by simpa using hw)) ⟨.bl _,H,I,rfl,?_⟩
    rw [show its.toArray.any e=its.any e by simp,ha]
    exact q
  · obtain ⟨its,r,pl,hz⟩:=I.tuple (SqT.of hp)
    obtain ⟨e,he,ha⟩:=in_core I hu hn l el rX ok rx r
    refine SeqAt.notIn_tupleAt e pl (fun w hw=>he w (by simpa using hw)) ⟨.bl _,H,I,rfl,?_⟩
    rw [show its.toArray.any e=its.any e by simp,ha]
    exact q
theorem rowF_lt (d:Dr) (f:Ft) (p:Nat):rowF d f p<2 ^ d.th.length:=MM.ofB_lt _ _
noncomputable def rwF (d:Dr) (f:Ft):List Nat:=(List.range d.td.length).map (rowF d f)
theorem rwF_ok {d:Dr} (ok:DrOk d) (f:Ft):ClOk d.th.length (rwF d f):=by
  have l:(rwF d f).length=d.td.length:=by simp [rwF]
  refine ⟨ok.h1,ok.h2,by rw [l];exact ok.p1,by rw [l];exact ok.p2,fun r hr=> ?_⟩
  obtain ⟨i,_,rfl⟩:=List.mem_map.mp hr
  exact rowF_lt d f i
theorem bent_ok {n:Nat} {rs:List Nat} (ok:ClOk n rs) {k e:Nat} (he:e<n) (hk:k<rs.length):ClOk n (rs.set k (rs.getD k 0 ^^^ 2 ^ e)):=by
  refine ⟨ok.n1,ok.n2,by rw [List.length_set];exact ok.p1,by rw [List.length_set];exact ok.p2,fun r hr=> ?_⟩
  rcases List.mem_or_eq_of_mem_set hr with h | h
  · exact ok.lt r h
  · rw [h]
    exact Nat.xor_lt_two_pow (ok.lt _ (getD_mem hk)) (Nat.pow_lt_pow_right (by decide) he)
theorem in_trueF {fs:List Ft} {f:Ft} (h:f∈fs):inX (.d (dF f)) (fs.map dF)=true:=by
  show ((fs.map dF).any fun e=>eqD e _)=true
  rw [List.any_eq_true]
  exact ⟨dF f,List.mem_map.mpr ⟨f,h,rfl⟩,eqD_refl _⟩
noncomputable abbrev s_law:Stmt:=top 66
theorem sc_law:FnScope ["_law_script","_law_told","_law_draft_here","_law_whole_here","_law_some","_law_made_here","_law_at","_law_pick","_law_bent","_law_rows_here","_law_cloth","_law_due","_law_turn","_law_found","_law_wider","_law_taller"] ["_law_script"] (defScope s_law):=⟨rfl,rfl,rfl,by decide +kernel,rfl,by decide +kernel,by decide +kernel⟩
theorem ok_law {f:Addr} {fd:FuncData} (F:Fun K "law" "law" s_law f fd) (T:Txt K mg c) (c__law_draft:CallF P w K mg base "_law_draft" 2 ["_law_script","_law_most"] (sp__law_draft K)) (c__law_made:CallF P w K mg base "_law_made" 8 ["_law_told"] (sp__law_made c)) (c__law_whole:CallF P w K mg base "_law_whole" 1 ["_law_script"] (sp__law_whole K)) (c__law_all_faults:CallF P w K mg base "_law_all_faults" 1 ["_law_told"] sp__law_all_faults) (c__law_rows:CallF P w K mg base "_law_rows" 3 ["_law_told","_law_fault"] sp__law_rows) (c__law_mixed:CallF P w K mg base "_law_mixed" 1 ["_law_cell","_law_k"] sp__law_mixed) (m_Cloth:MakeF P w K mg base "Cloth" c.Cloth 4 ["self","ends","rows"] (sp_Cloth___init__ c)) (c_found_faults:CallF P w K mg base "found_faults" 9 ["draft","cloth"] (sp_found_faults c)) (d_Cloth_told:MethF P w K mg base c.Cloth "told" 1 ["self"] (sp_Cloth_told c)) (d_Draft_told:MethF P w K mg base c.Draft "told" 1 ["self"] (sp_Draft_told c)):FnOk P w K mg base CX0 10 f fd ["_law_script"] (spLaw K):=by
  refine F.ok sc_law (fun vs H Q E h=> ?_) (fun cdv A outer s H vs Q E hr h=> ?_)
  · obtain ⟨a,ns,rfl,_⟩:=h
    rfl
  · obtain ⟨a,ns,rfl,sa,hl,k⟩:=h
    refine ⟨_,(pss_cons (ps_set (i:=1) sc_law.nd rfl (Or.inr rfl) (pe_callF c__law_draft (hr.mono (by decide)) (pa_cons (pe_slice (k_sll (K:=K)) (pv 0) po_none (po_some pe_int)) (pa_cons pe_int pa_nil))))
      (pss_cons (ps_set (i:=2) sc_law.nd rfl (Or.inl rfl) (pe_callF c__law_made (hr.mono (by decide)) (pa_cons (pv 1) pa_nil)))
      (pss_cons (ps_set (i:=3) sc_law.nd rfl (Or.inl rfl) (pe_callF c__law_whole (hr.mono (by decide)) (pa_cons (pv 0) pa_nil)))
      (pss_cons (ps_set (i:=4) sc_law.nd rfl (Or.inl rfl) (pe_callF c__law_all_faults (hr.mono (by decide)) (pa_cons (pv 1) pa_nil)))
      (pss_cons (ps_comp1 (i:=5) sc_law.nd rfl (Or.inl rfl) (k_pil (K:=K) (pv 4)) (fun _ _ _ _=>pts_nil) (fun _ _ _ _=>(pe_callF c__law_rows (hr.mono (by decide)) (pa_cons (pv 1) (pa_cons (pv 0) pa_nil)))))
      (pss_cons (ps_set (i:=6) sc_law.nd rfl (Or.inl rfl) (pe_op op_mod (pe_callF c__law_mixed (hr.mono (by decide)) (pa_cons (pv 3) (pa_cons pe_int pa_nil))) (pe_callB (k_len (K:=K)) rfl (T.own _ (by decide)) boot_len (pa_cons (pv 4) pa_nil))))
      (pss_cons (ps_set (i:=7) sc_law.nd rfl (Or.inl rfl) (pe_op op_mod (pe_callF c__law_mixed (hr.mono (by decide)) (pa_cons (pv 3) (pa_cons pe_int pa_nil))) (pe_callB (k_len (K:=K)) rfl (T.own _ (by decide)) boot_len (pa_cons (pe_ix (k_ixt (K:=K)) (pv 1) pe_int (fun _ _=>rfl)) pa_nil))))
      (pss_cons (ps_set (i:=8) sc_law.nd rfl (Or.inl rfl) (pe_callTy (k_list (K:=K)) rfl (T.own _ (by decide)) boot_list' (pa_cons (pe_ix (k_ixl (K:=K)) (pv 5) (pv 6) (fun _ _=>rfl)) pa_nil)))
      (pss_cons (ps_asg (pe_op op_xor (pe_ix (k_ixl (K:=K)) (pv 8) (pv 7) (fun _ _=>rfl)) (pe_op op_shl pe_int (pe_op op_mod (pe_callF c__law_mixed (hr.mono (by decide)) (pa_cons (pv 3) (pa_cons pe_int pa_nil))) (pe_callB (k_len (K:=K)) rfl (T.own _ (by decide)) boot_len (pa_cons (pe_ix (k_ixt (K:=K)) (pv 1) pe_int (fun _ _=>rfl)) pa_nil))))) (pg_sub (pv 8) (pv 7) set_list))
      (pss_cons (ps_for PassesOwn.never rfl (k_pit (K:=K) (pe_tup (pa_cons (pe_ix (k_ixl (K:=K)) (pv 5) (pv 6) (fun _ _=>rfl)) (pa_cons (pe_callF c__law_rows (hr.mono (by decide)) (pa_cons (pv 1) (pa_cons (pe_tup (pa_cons pe_str pa_nil)) pa_nil))) (pa_cons (pv 8) (pa_cons (pe_ix (k_ixl (K:=K)) (pv 5) (pv 6) (fun _ _=>rfl)) pa_nil)))))) (pg_name (i:=9) sc_law.nd rfl (Or.inr rfl)) (pss_cons (ps_set (i:=10) sc_law.nd rfl (Or.inl rfl) (pe_makeF m_Cloth (hr.mono (by decide)) (pa_cons (pe_callB (k_len (K:=K)) rfl (T.own _ (by decide)) boot_len (pa_cons (pe_ix (k_ixt (K:=K)) (pv 1) pe_int (fun _ _=>rfl)) pa_nil)) (pa_cons (pv 9) pa_nil))))
      (pss_cons (ps_comp2 (K:=K) (i:=11) sc_law.nd rfl (Or.inl rfl) (pi_zs (K:=K) rfl (T.own _ (by decide)) (pa_cons (pv 4) (pa_cons (pv 5) pa_nil))) (fun _ _ _ _=>(pts_one (pt_cmpR (op_eqD hr.units) (pv 1) (pv 2) (nomark _)))) (fun _ _ _ _=>(pv 0)))
      (pss_one (ps_for PassesOwn.never rfl (pi_range1 rfl (T.own _ (by decide)) (pa_cons pe_int pa_nil)) (pg_name (i:=12) sc_law.nd rfl (Or.inl rfl)) (pss_cons (ps_set (i:=13) sc_law.nd rfl (Or.inl rfl) (pe_callF c_found_faults hr (pa_cons (pv 2) (pa_cons (pv 10) pa_nil))))
      (pss_cons (ps_if (PW.pt (pw_or (pt_not (pt_val (pe_callB (k_isin (K:=K)) rfl (T.own _ (by decide)) boot_isinstance (pa_cons (pv 13) (pa_cons (pe_ty rfl (T.own _ (by decide)) boot_list') pa_nil))))) (pw_or (pt_cmpR (op_neD hr.units) (pv 13) (pv 11) (nomark _)) (pw_or1 (pt_cmpR (op_neD hr.units) (pe_methF0 (pv 10) d_Cloth_told (hr.mono (by decide))) (pe_tup (pa_cons (pe_callB (k_len (K:=K)) rfl (T.own _ (by decide)) boot_len (pa_cons (pe_ix (k_ixt (K:=K)) (pv 1) pe_int (fun _ _=>rfl)) pa_nil)) (pa_cons (pv 9) pa_nil))) (nomark _)))))) (pss_one (ps_ret pe_bl)) pss_nil)
      (pss_cons (ps_if (PW.pt (pw_and (pt_cmpR (op_eqD hr.units) (pv 9) (pe_ix (k_ixl (K:=K)) (pv 5) (pv 6) (fun _ _=>rfl)) (nomark _)) (pw_and1 (pt_cmpR (op_notinX hr.units) (pe_ix (k_ixl (K:=K)) (pv 4) (pv 6) (fun _ _=>rfl)) (pv 13) (by with_unfolding_all rfl))))) (pss_one (ps_ret pe_bl)) pss_nil)
      (pss_one (ps_expr (kx_bm (K:=K) PySem.F.plainAttrs_list PySem.F.slot_list_append PySem.F.type_list_append mt_append (pv 13) (pa_cons (pe_tup (pa_cons pe_str (pa_cons pe_int pa_nil))) pa_nil))))))))))))
      (pss_cons (ps_if (pt_cmpR (op_neD hr.units) (pe_methF0 (pv 2) d_Draft_told (hr.mono (by decide))) (pv 1) (nomark _)) (pss_one (ps_ret pe_bl)) pss_nil)
      (pss_cons (ps_set (i:=14) sc_law.nd rfl (Or.inl rfl) (pe_makeF m_Cloth (hr.mono (by decide)) (pa_cons (pe_op op_add (pe_callB (k_len (K:=K)) rfl (T.own _ (by decide)) boot_len (pa_cons (pe_ix (k_ixt (K:=K)) (pv 1) pe_int (fun _ _=>rfl)) pa_nil)) pe_int) (pa_cons (pe_ix (k_ixl (K:=K)) (pv 5) (pv 6) (fun _ _=>rfl)) pa_nil))))
      (pss_cons (ps_set (i:=15) sc_law.nd rfl (Or.inl rfl) (pe_makeF m_Cloth (hr.mono (by decide)) (pa_cons (pe_callB (k_len (K:=K)) rfl (T.own _ (by decide)) boot_len (pa_cons (pe_ix (k_ixt (K:=K)) (pv 1) pe_int (fun _ _=>rfl)) pa_nil)) (pa_cons (pe_op (k_cat (K:=K)) (pe_ix (k_ixl (K:=K)) (pv 5) (pv 6) (fun _ _=>rfl)) (pe_lst (pa_cons pe_int pa_nil))) pa_nil))))
      (pss_one (ps_ret (pe_and (pe_cmpR (op_eqD hr.units) (pe_callF c_found_faults hr (pa_cons (pv 2) (pa_cons (pv 14) pa_nil))) (pe_lst pa_nil) (nomark _)) (pe_one (pe_cmpR (op_eqD hr.units) (pe_callF c_found_faults hr (pa_cons (pv 2) (pa_cons (pv 15) pa_nil))) (pe_lst pa_nil) (nomark _))))))))))))))))))),?_⟩
    walk_at "w"
    refine rd_slL sa fun p0 hp0=> ?_
    rw [cut_to (by decide), ← List.map_take]
    have s0:=same_new (o:=HO.lst ((ns.take (24:Int).toNat).map V.int)) hp0
    have g0:upd H p0 (HO.lst ((ns.take (24:Int).toNat).map V.int)) p0=_:=upd_same
    generalize upd H p0 (HO.lst ((ns.take (24:Int).toNat).map V.int))=H0 at s0 g0 ⊢
    have l0:(ns.take (24:Int).toNat).length≤24:=by rw [List.length_take];exact Nat.min_le_left _ _
    walk_at "w"
    refine ⟨p0,_,5,rfl,SqL.of g0,by omega,by decide,by decide,fun H1 pt d s1 hpt r1 ok th24 td24=> ?_⟩
    replace r1:=r1.any
    have h1:=ok.h1
    have p1:=ok.p1
    walk_at "w"
    refine ⟨_,d,rfl,r1,ok,fun H2 x s2 hx D2=> ?_⟩
    walk_at "w"
    refine ⟨a,ns,rfl,(s0.trans (s1.trans s2)).seq sa,hl,fun H3 W s3=> ?_⟩
    walk_at "w"
    have r3:=r1.same (s2.trans s3)
    have D3:=D2.same s3
    refine ⟨_,d,rfl,r3,ok,fun H4 pd wd s4 hpd g4 f4 l4=> ?_⟩
    have r4:=r3.same s4
    have D4:=D3.same s4
    have lw:wd.length=(allF d).length:=f4.len
    have tf:∀ i,i<(allF d).length→∃ a,wd.getD i .non= .ref a∧H4 a=some (.tup (fV ((allF d).getD i ("",[]))))∧((allF d).getD i ("",[]))∈allF d:=fun i hi=>by
      have hi2:i<wd.length:=by omega
      obtain ⟨a,e1,e2,_⟩:=f4.el i wd[i] (allF d)[i] (List.getElem?_eq_getElem hi2) (List.getElem?_eq_getElem hi)
      have e3:(allF d).getD i ("",[])=(allF d)[i]:=by rw [List.getD_eq_getElem?_getD,List.getElem?_eq_getElem hi];rfl
      refine ⟨a,?_,by rw [e3];exact e2,by rw [e3];exact List.getElem_mem hi⟩
      rw [List.getD_eq_getElem?_getD,List.getElem?_eq_getElem hi2]
      exact e1
    walk_at "w"
    refine ⟨pd,rfl,⟨_,SqL.of g4⟩,fun D hD=> ?_⟩
    refine comp_map (m:=1) (G:=fun i=>dL (rwF d ((allF d).getD i ("",[])))) (src_list (SqL.of g4) rfl) hD (by omega) ?_ ?_
    · intro i H' R hi s kk
      obtain ⟨b,eb,gb,hm⟩:=tf i (by omega)
      rw [eb]
      walk_at "w"
      refine ⟨_,d,b,_,rfl,r4.same s,ok,s _ _ gb, .inl (all_FK ok hm),fun H5 q s5 hq gq=> ?_⟩
      exact kk H5 _ s5 (rp_L gq hq (by simp [rwF];have:=ok.p2;omega))
    intro H5 wm s5 gm rm
    replace rm:=rm.any
    obtain ⟨mm,am,vsm,emm,eam,ham,hfm,hlm,hbm,elm⟩:=lst_of rm
    cases emm
    cases eam
    rw [gm] at ham
    cases ham
    rw [List.length_map,List.length_range] at hlm
    have mf:∀ i,i<(allF d).length→∃ b,wm.getD i .non= .ref b∧H5 b=some (.lst ((rwF d ((allF d).getD i ("",[]))).map nV)):=fun i hi=>by
      have q:=elm i (by simp;omega)
      rw [getD_rmap (fun i=>dL (rwF d ((allF d).getD i ("",[])))) (by omega)] at q
      obtain ⟨b,eb,hb,_⟩:=dL_of q
      exact ⟨b,eb,hb⟩
    have s45:=s5
    have r5:=r4.same s5
    have D5:=D4.same s5
    have f5:=f4.same s5
    have g5:=s5 _ _ g4
    have tf5:∀ i,i<(allF d).length→∃ a,wd.getD i .non= .ref a∧H5 a=some (.tup (fV ((allF d).getD i ("",[]))))∧((allF d).getD i ("",[]))∈allF d:=fun i hi=>by
      obtain ⟨b,e1,e2,e3⟩:=tf i hi
      exact ⟨b,e1,s5 _ _ e2,e3⟩
    clear r1 r3 r4 D2 D3 D4 f4 g4 tf rm elm
    have Lp:0<(allF d).length:=by
      have:=ok.s1
      unfold allF
      simp [loneF]
      omega
    obtain ⟨m,a7,v0,v1,v2,v3,v4,v5,v6,em,ea7,ha,q0,q1,q2,q3,q4,q5,q6⟩:=tup7_of r5
    cases em
    cases ea7
    obtain ⟨b2,rfl,e2,_,_⟩:=dL_of q2
    obtain ⟨m4,a4,vs4,em4,rfl,ha4,hf4,hl4,hb4,el4⟩:=lst_of q4
    rw [List.length_map] at hl4
    walk_at "w"
    refine ⟨W,50,rfl,⟨by decide,by decide⟩,?_⟩
    walk_at "w"
    refine rd_lenL (SqL.of g5) ?_
    rw [lw]
    refine rd_rI (by show (0:Int)<_;omega) ?_
    obtain ⟨at',eat,hat⟩:∃ n:Nat,mixV W 50%((allF d).length:Nat)=(n:Nat)∧n<(allF d).length:=by
      have z0:=Int.emod_nonneg (mixV W 50) (show (((allF d).length:Nat):Int)≠0 by omega)
      have z1:=Int.emod_lt_of_pos (mixV W 50) (show (0:Int)<((allF d).length:Nat) by omega)
      exact ⟨(mixV W 50%((allF d).length:Nat)).toNat,by omega,by omega⟩
    rw [eat]
    walk_at "w"
    refine ⟨W,51,rfl,⟨by decide,by decide⟩,?_⟩
    walk_at "w"
    refine rd_ixT (SqT.of ha) (atI_nat (j:=4) rfl) ?_
    walk_at "w"
    refine rd_lenL (SqL.of ha4) ?_
    rw [hl4]
    refine rd_rI (by show (0:Int)<_;omega) ?_
    obtain ⟨pk,epk,hpk⟩:∃ n:Nat,mixV W 51%(d.td.length:Nat)=(n:Nat)∧n<d.td.length:=by
      have z0:=Int.emod_nonneg (mixV W 51) (show ((d.td.length:Nat):Int)≠0 by omega)
      have z1:=Int.emod_lt_of_pos (mixV W 51) (show (0:Int)<(d.td.length:Nat) by omega)
      exact ⟨(mixV W 51%(d.td.length:Nat)).toNat,by omega,by omega⟩
    rw [epk]
    obtain ⟨bA',eA,gA⟩:=mf at' hat
    obtain ⟨fA,eFA,gFA,mFA⟩:=tf5 at' hat
    generalize efa:(allF d).getD at' ("",[])=fa at gA gFA mFA
    have okA:=rwF_ok ok fa
    walk_at "w"
    refine rd_ixL (SqL.of gm) (atI_get' (j:=at') (by omega) (by omega)) ?_
    rw [eA]
    walk_at "w"
    refine rd_listOf (SqL.of gA) fun pb hpb=> ?_
    have s6:=same_new (o:=HO.lst ((rwF d fa).map nV)) hpb
    have gB:upd H5 pb (HO.lst ((rwF d fa).map nV)) pb=_:=upd_same
    generalize upd H5 pb (HO.lst ((rwF d fa).map nV))=H6 at s6 gB ⊢
    have lA:(rwF d fa).length=d.td.length:=by simp [rwF]
    walk_at "w"
    refine rd_ixL (SqL.of gB) (v:=nV ((rwF d fa).getD pk 0)) (atI_natV (by omega) (by omega)) ?_
    walk_at "w"
    refine ⟨W,52,rfl,⟨by decide,by decide⟩,?_⟩
    walk_at "w"
    refine rd_ixT (SqT.of (s6 _ _ ha)) (atI_nat (j:=2) rfl) ?_
    walk_at "w"
    refine rd_lenL (SqL.of (s6 _ _ e2)) ?_
    rw [List.length_map]
    refine rd_rI (by show (0:Int)<_;omega) ?_
    obtain ⟨en,een,hen⟩:∃ n:Nat,mixV W 52%(d.th.length:Nat)=(n:Nat)∧n<d.th.length:=by
      have z0:=Int.emod_nonneg (mixV W 52) (show ((d.th.length:Nat):Int)≠0 by omega)
      have z1:=Int.emod_lt_of_pos (mixV W 52) (show (0:Int)<(d.th.length:Nat) by omega)
      exact ⟨(mixV W 52%(d.th.length:Nat)).toNat,by omega,by omega⟩
    rw [een]
    walk_at "w"
    refine rd_rI ⟨by omega,by omega,by decide⟩ ?_
    walk_at "w"
    rw [pw_nat,bX]
    refine rd_gsub ?_
    walk_at "w"
    refine ⟨pb,_,_,pk,rfl,rfl,gB,ix_nat (by rw [List.length_map];omega),?_⟩
    have okB:=bent_ok okA hen (by rw [lA];exact hpk)
    have eset:((rwF d fa).map nV).set pk (V.int (((rwF d fa).getD pk 0 ^^^ 2 ^ en:Nat):Int))=((rwF d fa).set pk ((rwF d fa).getD pk 0 ^^^ 2 ^ en)).map nV:=set_nat
    rw [eset]
    have lB:((rwF d fa).set pk ((rwF d fa).getD pk 0 ^^^ 2 ^ en)).length=d.td.length:=by rw [List.length_set,lA]
    generalize (rwF d fa).set pk ((rwF d fa).getD pk 0 ^^^ 2 ^ en)=bs at okB lB ⊢
    have s7:Same H5 (upd H6 pb (HO.lst (bs.map nV))):=fun b o e=>by
      rw [upd_ne (fun z=>by rw [z,hpb] at e;cases e)]
      exact s6 _ _ e
    have gB7:upd H6 pb (HO.lst (bs.map nV)) pb=_:=upd_same
    generalize upd H6 pb (HO.lst (bs.map nV))=H7 at s7 gB7 ⊢
    clear gB s6 eset
    walk_at "w"
    refine rd_ixL (SqL.of (s7 _ _ gm)) (atI_get' (j:=at') (by omega) (by omega)) ?_
    rw [eA]
    walk_at "w"
    intro pn hpn
    walk_at "w"
    have s8:=same_new (o:=HO.tup (fV (("none":Str),([]:List Nat)))) hpn
    have gn:upd H7 pn (HO.tup (fV (("none":Str),([]:List Nat)))) pn=_:=upd_same
    show sp__law_rows _ (upd H7 pn (HO.tup (fV (("none":Str),([]:List Nat))))) _ _
    generalize upd H7 pn (HO.tup (fV (("none":Str),([]:List Nat))))=H8 at s8 gn ⊢
    have s58:=s7.trans s8
    refine ⟨_,d,pn,_,rfl,r5.same s58,ok,gn, .inr rfl,fun H9 pN s9 hpN gN=> ?_⟩
    have s59:=s58.trans s9
    walk_at "w"
    refine rd_ixL (SqL.of (s59 _ _ gm)) (atI_get' (j:=at') (by omega) (by omega)) ?_
    rw [eA]
    walk_at "w"
    intro pq hpq
    have sA:=same_new (o:=HO.tup [.ref bA', .ref pN, .ref pb, .ref bA']) hpq
    have gq:upd H9 pq (HO.tup [.ref bA', .ref pN, .ref pb, .ref bA']) pq=_:=upd_same
    generalize upd H9 pq (HO.tup [.ref bA', .ref pN, .ref pb, .ref bA'])=HA at sA gq ⊢
    have s5A:=s59.trans sA
    have four:∀ i,i<4→∃ r rs,([.ref bA', .ref pN, .ref pb, .ref bA']:List V).getD i .non= .ref r∧HA r=some (.lst (rs.map nV))∧ClOk d.th.length rs∧rs.length=d.td.length:=fun i hi=>by
      match i with
      | 0=>exact ⟨bA',_,rfl,s5A _ _ gA,okA,lA⟩
      | 1=>exact ⟨pN,_,rfl,sA _ _ gN,rwF_ok ok _,by simp⟩
      | 2=>exact ⟨pb,_,rfl,sA _ _ (s9 _ _ (s8 _ _ gB7)),okB,lB⟩
      | 3=>exact ⟨bA',_,rfl,s5A _ _ gA,okA,lA⟩
      | i+4=>omega
    have gmA:=s5A _ _ gm
    have g5A:=s5A _ _ g5
    have f5A:=f5.same s5A
    have haA:=s5A _ _ ha
    have e2A:=s5A _ _ e2
    have DA:=D5.same s5A
    have gAA:=s5A _ _ gA
    have gFAA:=s5A _ _ gFA
    have rA:=r5.same s5A
    walk_at "w"
    refine ⟨pq,rfl,⟨_,SqT.of gq⟩,for_src (fs_tup (SqT.of gq)) (fun i σ H3=>∃ (u1 u2 u3 u4 u5:Option V),σ=[some (.ref a),some (.ref pt),some (.ref x),some (.int W),some (.ref pd),some (.ref D),some (nV at'),some (nV pk),some (.ref pb),u1,u2,u3,u4,u5,none,none]∧Same HA H3) ⟨_,_,_,_,_,rfl,Same.refl _⟩ (fun i σ H3 ⟨_,_,_,_,_,_,s⟩=>s) ?_ ?_⟩
    · rintro i σ H' HB hi ⟨u1,u2,u3,u4,u5,rfl,s'⟩ sB
      have sAB:=s'.trans sB
      obtain ⟨r,rs,er,gr,okr,lr⟩:=four i hi
      rw [er]
      walk_at "w"
      refine rd_ixT (SqT.of (sAB _ _ haA)) (atI_nat (j:=2) rfl) ?_
      walk_at "w"
      refine rd_lenL (SqL.of (sAB _ _ e2A)) ?_
      rw [List.length_map]
      walk_at "w"
      refine cl_make (Q:=fun v H=>gName 10 v _ H _) (sAB _ _ gr) okr fun HC xc sC hxc CC=> ?_
      have sAC:=sAB.trans sC
      have p2:=ok.p2
      have grC:=sAC _ _ gr
      walk_at "w"
      refine ⟨false,false,pd,D,rfl,⟨_,SqL.of (sAC _ _ g5A)⟩,⟨_,SqL.of (sAC _ _ gmA)⟩,fun DD hDD=> ?_⟩
      refine comp_data (m:=1) (p:=fun i=>wB d rs ((allF d).getD i ("",[]))) (G:=fun i=>dF ((allF d).getD i ("",[]))) (src_zs (t1:=false) (t2:=false) (SqL.of (sAC _ _ g5A)) (SqL.of (sAC _ _ gmA)) (by omega) rfl rfl) hDD (by omega) ?_ ?_ ?_
      · intro i H' R hi s kk
        obtain ⟨b,eb,gb⟩:=mf i (by omega)
        rw [eb]
        walk_at "w"
        refine ⟨1,dL (rwF d ((allF d).getD i ("",[]))),dL rs,by decide,rp_L (s _ _ (sAC _ _ (s5A _ _ gb))) trivial (by simp [rwF];omega),rp_L (s _ _ grC) trivial (by omega),rfl,?_⟩
        rw [if_neg (by decide),eqD_dL]
        exact ⟨_,rfl,kk H' (Same.refl _)⟩
      · intro i H' R hi hp s kk
        obtain ⟨b,eb,gb,hm⟩:=tf5 i (by omega)
        rw [eb]
        walk_at "w"
        exact kk H' _ (Same.refl _) (rp_F (s _ _ (sAC _ _ (s5A _ _ gb))) (allF_len ok hm))
      intro HD ys sD gD rD
      rw [lw,rng_filter (allF d) (wB d rs) dF ("",[])] at rD
      obtain ⟨fD,_⟩:=fs_of rD gD fun f hf=>allF_len ok (List.mem_filter.mp hf).1
      have lD:ys.length≤5000:=by
        have:=fD.item.1
        rw [List.length_map] at this
        have:=List.length_filter_le (wB d rs) (allF d)
        omega
      have eF:fF d d.th.length rs=(allF d).filter (wB d rs):=if_pos ⟨rfl,lr.symm⟩
      have sAD:=sAC.trans sD
      have CD:=CC.same sD
      walk_at "w"
      refine ⟨_,rfl,by decide,by decide,for_src (fs_range0 (n:=2)) (fun i σ H4=>∃ y z,σ=[some (.ref a),some (.ref pt),some (.ref x),some (.int W),some (.ref pd),some (.ref D),some (nV at'),some (nV pk),some (.ref pb),some (.ref r),some (.ref xc),some (.ref DD),y,z,none,none]∧Same HD H4) ⟨_,_,rfl,Same.refl _⟩ (fun i σ H4 ⟨_,_,_,s⟩=>s) ?_ ?_⟩
      · rintro j σ H' H4 hj ⟨y,z,rfl,s''⟩ s4
        have sD4:=s''.trans s4
        have sA4:=sAD.trans sD4
        walk_at "w"
        refine ⟨x,xc,d,_,rs,rfl,DA.same sA4,ok,CD.same sD4,fun HE pf wf sE hpf gf ff lf=> ?_⟩
        rw [eF] at ff
        have sDE:=sD4.trans sE
        have sAE:=sA4.trans sE
        walk_at "w"
        refine rd_isin (.lst gf) (kb (b:=true) (by decide +kernel)) ?_
        walk_at "w"
        refine ⟨2,_,_,by decide,ff.rp gf trivial (by omega),(fD.same sDE).rp (sDE _ _ gD) trivial (by omega),rfl,?_⟩
        rw [eqD_refl,if_pos rfl]
        walk_at "w"
        obtain ⟨dx,tt,gx,_⟩:=id (CD.same sDE)
        refine ⟨_,_,_,rfl,gx,rfl,?_⟩
        walk_at "w"
        refine ⟨xc,_,rs,rfl,CD.same sDE,fun HF pT lT sF hpT hlT gT glT=> ?_⟩
        have sAF:=sAE.trans sF
        walk_at "w"
        refine rd_ixT (SqT.of (sAF _ _ haA)) (atI_nat (j:=2) rfl) ?_
        walk_at "w"
        refine rd_lenL (SqL.of (sAF _ _ e2A)) ?_
        rw [List.length_map]
        walk_at "w"
        intro pu hpu
        have sG:=same_new (o:=HO.tup [nV d.th.length, .ref r]) hpu
        have gu:upd HF pu (HO.tup [nV d.th.length, .ref r]) pu=_:=upd_same
        show rEqD true (V.ref pT) (V.ref pu) (upd HF pu (HO.tup [nV d.th.length, .ref r])) _
        generalize upd HF pu (HO.tup [nV d.th.length, .ref r])=HG at sG gu ⊢
        have sAG:=sAF.trans sG
        have gfG:=sG _ _ (sF _ _ gf)
        have ffG:=ff.same (sF.trans sG)
        refine ⟨2, .tup [dN d.th.length,dL rs], .tup [dN d.th.length,dL rs],by decide,rp_twoT (sG _ _ gT) (.int _) (rp_L (sG _ _ glT) trivial (by omega)),rp_twoT gu (.int _) (rp_L (sG _ _ (sF _ _ (sDE _ _ (sD _ _ grC)))) trivial (by omega)),rfl,?_⟩
        rw [eqD_refl,if_pos rfl]
        walk_at "w"
        refine rd_ixL (SqL.of (sAG _ _ gmA)) (atI_get' (j:=at') (by omega) (by omega)) ?_
        rw [eA]
        refine ⟨1,dL rs,dL (rwF d fa),by decide,rp_L (sG _ _ (sF _ _ (sDE _ _ (sD _ _ grC)))) trivial (by omega),rp_L (sAG _ _ gAA) trivial (by omega),rfl,?_⟩
        rw [if_neg (by decide),eqD_dL]
        walk_at "w"
        refine iteP (fun hq=> ?_) (fun hq=> ?_)
        · walk_at "w"
          refine rd_ixL (SqL.of (sAG _ _ g5A)) (atI_get' (j:=at') (by omega) (by omega)) ?_
          rw [eFA]
          walk_at "w"
          have it:=ffG.item
          refine ⟨pf,wf,((allF d).filter (wB d rs)).map dF,1, .d (dF fa),rfl, .inl gfG,by decide,it.1,it.2, .d (rp_F (sAG _ _ gFAA) (allF_len ok mFA)),trivial,?_⟩
          rw [in_trueF (fs:=(allF d).filter (wB d rs)) (List.mem_filter.mpr ⟨mFA,(decide_eq_true hq.symm:wB d rs fa=true)⟩),if_pos rfl]
          walk_at "w"
          refine tyL (SqL.of gfG) ?_
          walk_at "w"
          intro t ht
          walk_at "w"
          have s7:=same_new (o:=HO.tup [V.str "up",V.int 1]) ht
          refine rd_app (s7 _ _ gfG) (by omega) ?_
          walk_at "w"
          refine ⟨_,_,rfl,fun b o e=> ?_⟩
          rw [upd_ne (fun z=>by rw [z,sD4.free hpf] at e;cases e)]
          exact s7 _ _ (sG _ _ (sF _ _ (sDE _ _ e)))
        · walk_at "w"
          refine tyL (SqL.of gfG) ?_
          walk_at "w"
          intro t ht
          walk_at "w"
          have s7:=same_new (o:=HO.tup [V.str "up",V.int 1]) ht
          refine rd_app (s7 _ _ gfG) (by omega) ?_
          walk_at "w"
          refine ⟨_,_,rfl,fun b o e=> ?_⟩
          rw [upd_ne (fun z=>by rw [z,sD4.free hpf] at e;cases e)]
          exact s7 _ _ (sG _ _ (sF _ _ (sDE _ _ e)))
      · rintro σ H4 ⟨y,z,rfl,s4⟩
        walk_at "w"
        exact ⟨_,_,_,_,_,rfl,sAD.trans s4⟩
    · rintro σ HB ⟨u1,u2,u3,u4,u5,rfl,sB⟩
      walk_at "w"
      obtain ⟨dx,w1,w2,w3,w4,w5,h0,_⟩:=id (DA.same sB)
      refine ⟨_,_,_,rfl,h0,rfl,?_⟩
      walk_at "w"
      refine ⟨x,d,rfl,DA.same sB,fun HC pT sC hpT rT=> ?_⟩
      have sAC:=sB.trans sC
      walk_at "w"
      refine ⟨3,_,_,by decide,rT.any,rA.same sAC,rfl,?_⟩
      rw [eqD_refl,if_pos rfl]
      walk_at "w"
      refine rd_ixT (SqT.of (sAC _ _ haA)) (atI_nat (j:=2) rfl) ?_
      walk_at "w"
      refine rd_lenL (SqL.of (sAC _ _ e2A)) ?_
      rw [List.length_map]
      walk_at "w"
      refine rd_ixL (SqL.of (sAC _ _ gmA)) (atI_get' (j:=at') (by omega) (by omega)) ?_
      rw [eA]
      walk_at "w"
      rw [show ((d.th.length:Nat):Int)+1=((d.th.length+1:Nat):Int) by omega]
      refine cl_make (Q:=fun v H=>gName 14 v _ H _) (sAC _ _ gAA) ⟨by omega,by omega,okA.p1,okA.p2,fun r hr=>Nat.lt_trans (okA.lt r hr) (Nat.pow_lt_pow_right (by decide) (by omega))⟩ fun HD xw sD hxw CW=> ?_
      have sAD:=sAC.trans sD
      walk_at "w"
      refine rd_ixT (SqT.of (sAD _ _ haA)) (atI_nat (j:=2) rfl) ?_
      walk_at "w"
      refine rd_lenL (SqL.of (sAD _ _ e2A)) ?_
      rw [List.length_map]
      walk_at "w"
      refine rd_ixL (SqL.of (sAD _ _ gmA)) (atI_get' (j:=at') (by omega) (by omega)) ?_
      rw [eA]
      walk_at "w"
      intro pz hpz
      have sE:=same_new (o:=HO.lst [V.int 0]) hpz
      have gz:upd HD pz (HO.lst [V.int 0]) pz=_:=upd_same
      walk_at "w"
      generalize upd HD pz (HO.lst [V.int 0])=HE at sE gz ⊢
      have sAE:=sAD.trans sE
      have q2:=okA.p2
      refine rd_cat (SqL.of (sAE _ _ gAA)) (SqL.of gz) (by simp;omega) fun py hpy=> ?_
      have sF:=same_new (o:=HO.lst ((rwF d fa).map nV++[V.int 0])) hpy
      have gy:upd HE py (HO.lst ((rwF d fa).map nV++[V.int 0])) py=some (.lst ((rwF d fa++[0]).map nV)):=by rw [upd_same,List.map_append];rfl
      generalize upd HE py (HO.lst ((rwF d fa).map nV++[V.int 0]))=HF at sF gy ⊢
      have sAF:=sAE.trans sF
      have ly:(rwF d fa++[0]).length=d.td.length+1:=by rw [List.length_append,lA];rfl
      walk_at "w"
      refine cl_make (Q:=fun v H=>gName 15 v _ H _) gy ⟨ok.h1,ok.h2,by omega,by omega,fun r hr=> ?_⟩ fun HG xt sG hxt CT=> ?_
      · rcases List.mem_append.mp hr with h | h
        · exact okA.lt r h
        · rw [List.mem_singleton.mp h];exact Nat.two_pow_pos _
      have sAG:=sAF.trans sG
      have CW2:=CW.same (sE.trans (sF.trans sG))
      walk_at "w"
      refine ⟨x,xw,d,_,_,rfl,DA.same sAG,ok,CW2,fun HH pf wf sH hpf gf ff lf=> ?_⟩
      have e0:fF d (d.th.length+1) (rwF d fa)=[]:=if_neg (by omega)
      rw [e0] at ff
      walk_at "w"
      intro pe hpe
      have sI:=same_new (o:=HO.lst []) hpe
      have ge:upd HH pe (HO.lst []) pe=_:=upd_same
      show rEqD false _ _ (upd HH pe (HO.lst [])) _
      generalize upd HH pe (HO.lst [])=HI at sI ge ⊢
      refine ⟨2,_,_,by decide,(ff.same sI).rp (sI _ _ gf) trivial (by omega),(FsAt.nil _).rp ge trivial (by simp),rfl,?_⟩
      rw [eqD_refl,if_neg (by decide)]
      walk_at "w"
      refine ⟨x,xt,d,_,_,rfl,DA.same (sAG.trans (sH.trans sI)),ok,CT.same (sH.trans sI),fun HJ pg wg sJ hpg gg fg lg=> ?_⟩
      have e1:fF d d.th.length (rwF d fa++[0])=[]:=if_neg (by omega)
      rw [e1] at fg
      walk_at "w"
      intro ph hph
      have sK:=same_new (o:=HO.lst []) hph
      have gh:upd HJ ph (HO.lst []) ph=_:=upd_same
      show rEqD false _ _ (upd HJ ph (HO.lst [])) _
      generalize upd HJ ph (HO.lst [])=HK at sK gh ⊢
      refine ⟨2,_,_,by decide,(fg.same sK).rp (sK _ _ gg) trivial (by omega),(FsAt.nil _).rp gh trivial (by simp),rfl,?_⟩
      rw [eqD_refl,if_neg (by decide)]
      exact k _
end
end K31
namespace K31
open PySem L2 PySem.Spec PyProof.Rows
theorem all_mk {l:PySem.W.OpenLaw} {w:World} {K:PySem.W.Frag} {h:Heap} {mg:Str→Option Value} {fa:Addr} (X:K.In h) (G:h.Ns mainGlobals mg) (hfa:mg "law"=some (.ref fa))
    {C_Draft:Addr}
    {C_Cloth:Addr}
    {C_Gear:Addr}
    {f0:Addr} {od0 an0:Option Addr} {sl0:Array (Option Value)} {oc0 kV0 dc0 pm0 cd0 ct0:Value}
    {f1:Addr} {od1 an1:Option Addr} {sl1:Array (Option Value)} {oc1 kV1 dc1 pm1 cd1 ct1:Value}
    {f2:Addr} {od2 an2:Option Addr} {sl2:Array (Option Value)} {oc2 kV2 dc2 pm2 cd2 ct2:Value}
    {f3:Addr} {od3 an3:Option Addr} {sl3:Array (Option Value)} {oc3 kV3 dc3 pm3 cd3 ct3:Value}
    {f4:Addr} {od4 an4:Option Addr} {sl4:Array (Option Value)} {oc4 kV4 dc4 pm4 cd4 ct4:Value}
    {f5:Addr} {od5 an5:Option Addr} {sl5:Array (Option Value)} {oc5 kV5 dc5 pm5 cd5 ct5:Value}
    {f6:Addr} {od6 an6:Option Addr} {sl6:Array (Option Value)} {oc6 kV6 dc6 pm6 cd6 ct6:Value}
    {f7:Addr} {od7 an7:Option Addr} {sl7:Array (Option Value)} {oc7 kV7 dc7 pm7 cd7 ct7:Value}
    {f8:Addr} {od8 an8:Option Addr} {sl8:Array (Option Value)} {oc8 kV8 dc8 pm8 cd8 ct8:Value}
    {f9:Addr} {od9 an9:Option Addr} {sl9:Array (Option Value)} {oc9 kV9 dc9 pm9 cd9 ct9:Value}
    {f10:Addr} {od10 an10:Option Addr} {sl10:Array (Option Value)} {oc10 kV10 dc10 pm10 cd10 ct10:Value}
    {f11:Addr} {od11 an11:Option Addr} {sl11:Array (Option Value)} {oc11 kV11 dc11 pm11 cd11 ct11:Value}
    {f12:Addr} {od12 an12:Option Addr} {sl12:Array (Option Value)} {oc12 kV12 dc12 pm12 cd12 ct12:Value}
    {f13:Addr} {od13 an13:Option Addr} {sl13:Array (Option Value)} {oc13 kV13 dc13 pm13 cd13 ct13:Value}
    {f14:Addr} {od14 an14:Option Addr} {sl14:Array (Option Value)} {oc14 kV14 dc14 pm14 cd14 ct14:Value}
    {f15:Addr} {od15 an15:Option Addr} {sl15:Array (Option Value)} {oc15 kV15 dc15 pm15 cd15 ct15:Value}
    {f16:Addr} {od16 an16:Option Addr} {sl16:Array (Option Value)} {oc16 kV16 dc16 pm16 cd16 ct16:Value}
    {f17:Addr} {od17 an17:Option Addr} {sl17:Array (Option Value)} {oc17 kV17 dc17 pm17 cd17 ct17:Value}
    {f18:Addr} {od18 an18:Option Addr} {sl18:Array (Option Value)} {oc18 kV18 dc18 pm18 cd18 ct18:Value}
    {f19:Addr} {od19 an19:Option Addr} {sl19:Array (Option Value)} {oc19 kV19 dc19 pm19 cd19 ct19:Value}
    {f20:Addr} {od20 an20:Option Addr} {sl20:Array (Option Value)} {oc20 kV20 dc20 pm20 cd20 ct20:Value}
    {f21:Addr} {od21 an21:Option Addr} {sl21:Array (Option Value)} {oc21 kV21 dc21 pm21 cd21 ct21:Value}
    {f22:Addr} {od22 an22:Option Addr} {sl22:Array (Option Value)} {oc22 kV22 dc22 pm22 cd22 ct22:Value}
    {f23:Addr} {od23 an23:Option Addr} {sl23:Array (Option Value)} {oc23 kV23 dc23 pm23 cd23 ct23:Value}
    {f24:Addr} {od24 an24:Option Addr} {sl24:Array (Option Value)} {oc24 kV24 dc24 pm24 cd24 ct24:Value}
    {f25:Addr} {od25 an25:Option Addr} {sl25:Array (Option Value)} {oc25 kV25 dc25 pm25 cd25 ct25:Value}
    {f26:Addr} {od26 an26:Option Addr} {sl26:Array (Option Value)} {oc26 kV26 dc26 pm26 cd26 ct26:Value}
    {f27:Addr} {od27 an27:Option Addr} {sl27:Array (Option Value)} {oc27 kV27 dc27 pm27 cd27 ct27:Value}
    {f28:Addr} {od28 an28:Option Addr} {sl28:Array (Option Value)} {oc28 kV28 dc28 pm28 cd28 ct28:Value}
    {f29:Addr} {od29 an29:Option Addr} {sl29:Array (Option Value)} {oc29 kV29 dc29 pm29 cd29 ct29:Value}
    {f30:Addr} {od30 an30:Option Addr} {sl30:Array (Option Value)} {oc30 kV30 dc30 pm30 cd30 ct30:Value}
    {f31:Addr} {od31 an31:Option Addr} {sl31:Array (Option Value)} {oc31 kV31 dc31 pm31 cd31 ct31:Value}
    {f32:Addr} {od32 an32:Option Addr} {sl32:Array (Option Value)} {oc32 kV32 dc32 pm32 cd32 ct32:Value}
    {f33:Addr} {od33 an33:Option Addr} {sl33:Array (Option Value)} {oc33 kV33 dc33 pm33 cd33 ct33:Value}
    {f34:Addr} {od34 an34:Option Addr} {sl34:Array (Option Value)} {oc34 kV34 dc34 pm34 cd34 ct34:Value}
    {f35:Addr} {od35 an35:Option Addr} {sl35:Array (Option Value)} {oc35 kV35 dc35 pm35 cd35 ct35:Value}
    {f36:Addr} {od36 an36:Option Addr} {sl36:Array (Option Value)} {oc36 kV36 dc36 pm36 cd36 ct36:Value}
    {f37:Addr} {od37 an37:Option Addr} {sl37:Array (Option Value)} {oc37 kV37 dc37 pm37 cd37 ct37:Value}
    {f38:Addr} {od38 an38:Option Addr} {sl38:Array (Option Value)} {oc38 kV38 dc38 pm38 cd38 ct38:Value}
    {f39:Addr} {od39 an39:Option Addr} {sl39:Array (Option Value)} {oc39 kV39 dc39 pm39 cd39 ct39:Value}
    {f40:Addr} {od40 an40:Option Addr} {sl40:Array (Option Value)} {oc40 kV40 dc40 pm40 cd40 ct40:Value}
    {f41:Addr} {od41 an41:Option Addr} {sl41:Array (Option Value)} {oc41 kV41 dc41 pm41 cd41 ct41:Value}
    {f42:Addr} {od42 an42:Option Addr} {sl42:Array (Option Value)} {oc42 kV42 dc42 pm42 cd42 ct42:Value}
    {f43:Addr} {od43 an43:Option Addr} {sl43:Array (Option Value)} {oc43 kV43 dc43 pm43 cd43 ct43:Value}
    {f44:Addr} {od44 an44:Option Addr} {sl44:Array (Option Value)} {oc44 kV44 dc44 pm44 cd44 ct44:Value}
    {f45:Addr} {od45 an45:Option Addr} {sl45:Array (Option Value)} {oc45 kV45 dc45 pm45 cd45 ct45:Value}
    {f46:Addr} {od46 an46:Option Addr} {sl46:Array (Option Value)} {oc46 kV46 dc46 pm46 cd46 ct46:Value}
    {f47:Addr} {od47 an47:Option Addr} {sl47:Array (Option Value)} {oc47 kV47 dc47 pm47 cd47 ct47:Value}
    {f48:Addr} {od48 an48:Option Addr} {sl48:Array (Option Value)} {oc48 kV48 dc48 pm48 cd48 ct48:Value}
    {f49:Addr} {od49 an49:Option Addr} {sl49:Array (Option Value)} {oc49 kV49 dc49 pm49 cd49 ct49:Value}
    {tk0:Tok}
    {tk1:Tok}
    {tk2:Tok}
    {tk3:Tok}
    {tk4:Tok}
    {tk5:Tok}
    {tk6:Tok}
    {tk7:Tok}
    {tk8:Tok}
    {tk9:Tok}
    {tk10:Tok}
    (aC_Draft:PySem.W.nsIn K mainGlobals "Draft"=some (some (.ref C_Draft)))
    (pg_Draft:PySem.W.plainGet K C_Draft Str.empty=true)
    (hd_Draft:PySem.W.hasDictIn K C_Draft=true)
    (po_Draft:PySem.W.plainOver K C_Draft=true)
    (sa_Draft:PySem.W.findIn K (.ref C_Draft) "__setattr__"=some (some (.builtin "object.__setattr__")))
    (mk_Draft:PySem.W.makesIn K C_Draft=true)
    (kc_Draft:PySem.W.keepIn K (.ref C_Draft)=true)
    (ha_Draft:PySem.W.findIn K (.ref C_Draft) "__class__"=some (some (.builtin "object.__class__")))
    (hn_Draft:PySem.W.specialIn K (.builtin "object.__class__") "__get__"=some (some (.builtin "getset_descriptor.__get__")))
    (ht_Draft:PySem.W.takesIn K (.builtin "object.__class__")=some true)
    (hm_Draft:PySem.W.mroIn K C_Draft (.type "object")=some true)
    (na_Draft_shafts:PySem.W.findIn K (.ref C_Draft) "shafts"=some none)
    (na_Draft_treadles:PySem.W.findIn K (.ref C_Draft) "treadles"=some none)
    (na_Draft_threading:PySem.W.findIn K (.ref C_Draft) "threading"=some none)
    (na_Draft_ties:PySem.W.findIn K (.ref C_Draft) "ties"=some none)
    (na_Draft_treading:PySem.W.findIn K (.ref C_Draft) "treading"=some none)
    (na_Draft_warp:PySem.W.findIn K (.ref C_Draft) "warp"=some none)
    (na_Draft_weft:PySem.W.findIn K (.ref C_Draft) "weft"=some none)
    (aC_Cloth:PySem.W.nsIn K mainGlobals "Cloth"=some (some (.ref C_Cloth)))
    (pg_Cloth:PySem.W.plainGet K C_Cloth Str.empty=true)
    (hd_Cloth:PySem.W.hasDictIn K C_Cloth=true)
    (po_Cloth:PySem.W.plainOver K C_Cloth=true)
    (sa_Cloth:PySem.W.findIn K (.ref C_Cloth) "__setattr__"=some (some (.builtin "object.__setattr__")))
    (mk_Cloth:PySem.W.makesIn K C_Cloth=true)
    (kc_Cloth:PySem.W.keepIn K (.ref C_Cloth)=true)
    (ha_Cloth:PySem.W.findIn K (.ref C_Cloth) "__class__"=some (some (.builtin "object.__class__")))
    (hn_Cloth:PySem.W.specialIn K (.builtin "object.__class__") "__get__"=some (some (.builtin "getset_descriptor.__get__")))
    (ht_Cloth:PySem.W.takesIn K (.builtin "object.__class__")=some true)
    (hm_Cloth:PySem.W.mroIn K C_Cloth (.type "object")=some true)
    (na_Cloth_width:PySem.W.findIn K (.ref C_Cloth) "width"=some none)
    (na_Cloth_rows:PySem.W.findIn K (.ref C_Cloth) "rows"=some none)
    (aC_Gear:PySem.W.nsIn K mainGlobals "Gear"=some (some (.ref C_Gear)))
    (pg_Gear:PySem.W.plainGet K C_Gear Str.empty=true)
    (hd_Gear:PySem.W.hasDictIn K C_Gear=true)
    (po_Gear:PySem.W.plainOver K C_Gear=true)
    (sa_Gear:PySem.W.findIn K (.ref C_Gear) "__setattr__"=some (some (.builtin "object.__setattr__")))
    (mk_Gear:PySem.W.makesIn K C_Gear=true)
    (kc_Gear:PySem.W.keepIn K (.ref C_Gear)=true)
    (ha_Gear:PySem.W.findIn K (.ref C_Gear) "__class__"=some (some (.builtin "object.__class__")))
    (hn_Gear:PySem.W.specialIn K (.builtin "object.__class__") "__get__"=some (some (.builtin "getset_descriptor.__get__")))
    (ht_Gear:PySem.W.takesIn K (.builtin "object.__class__")=some true)
    (hm_Gear:PySem.W.mroIn K C_Gear (.type "object")=some true)
    (na_Gear_tied:PySem.W.findIn K (.ref C_Gear) "tied"=some none)
    (na_Gear_carried:PySem.W.findIn K (.ref C_Gear) "carried"=some none)
    (na_Gear_always_up:PySem.W.findIn K (.ref C_Gear) "always_up"=some none)
    (a0:PySem.W.nsIn K mainGlobals "is_whole"=some (some (.ref f0)))
    (l0:K.lookup f0=some ⟨oc0,od0, .func (PySem.W.fnOf "is_whole" "is_whole" (defArgs s_is_whole) (defBody s_is_whole) (defScope s_is_whole) .none kV0 dc0 pm0 an0 cd0 ct0),sl0⟩)
    (c0:PySem.W.codeIn K cd0 "is_whole"=true)
    (k0:PySem.W.keepIn K (.ref f0)=true)
    (a1:PySem.W.nsIn K mainGlobals "is_among"=some (some (.ref f1)))
    (l1:K.lookup f1=some ⟨oc1,od1, .func (PySem.W.fnOf "is_among" "is_among" (defArgs s_is_among) (defBody s_is_among) (defScope s_is_among) .none kV1 dc1 pm1 an1 cd1 ct1),sl1⟩)
    (c1:PySem.W.codeIn K cd1 "is_among"=true)
    (k1:PySem.W.keepIn K (.ref f1)=true)
    (a2:PySem.W.nsIn K mainGlobals "bit_of"=some (some (.ref f2)))
    (l2:K.lookup f2=some ⟨oc2,od2, .func (PySem.W.fnOf "bit_of" "bit_of" (defArgs s_bit_of) (defBody s_bit_of) (defScope s_bit_of) .none kV2 dc2 pm2 an2 cd2 ct2),sl2⟩)
    (c2:PySem.W.codeIn K cd2 "bit_of"=true)
    (k2:PySem.W.keepIn K (.ref f2)=true)
    (a3:PySem.W.nsIn K mainGlobals "mask_of"=some (some (.ref f3)))
    (l3:K.lookup f3=some ⟨oc3,od3, .func (PySem.W.fnOf "mask_of" "mask_of" (defArgs s_mask_of) (defBody s_mask_of) (defScope s_mask_of) .none kV3 dc3 pm3 an3 cd3 ct3),sl3⟩)
    (c3:PySem.W.codeIn K cd3 "mask_of"=true)
    (k3:PySem.W.keepIn K (.ref f3)=true)
    (a4:PySem.W.nsIn K mainGlobals "mask_to"=some (some (.ref f4)))
    (l4:K.lookup f4=some ⟨oc4,od4, .func (PySem.W.fnOf "mask_to" "mask_to" (defArgs s_mask_to) (defBody s_mask_to) (defScope s_mask_to) .none kV4 dc4 pm4 an4 cd4 ct4),sl4⟩)
    (c4:PySem.W.codeIn K cd4 "mask_to"=true)
    (k4:PySem.W.keepIn K (.ref f4)=true)
    (a5:PySem.W.nsIn K mainGlobals "has_number"=some (some (.ref f5)))
    (l5:K.lookup f5=some ⟨oc5,od5, .func (PySem.W.fnOf "has_number" "has_number" (defArgs s_has_number) (defBody s_has_number) (defScope s_has_number) .none kV5 dc5 pm5 an5 cd5 ct5),sl5⟩)
    (c5:PySem.W.codeIn K cd5 "has_number"=true)
    (k5:PySem.W.keepIn K (.ref f5)=true)
    (a6:PySem.W.nsIn K mainGlobals "numbers_of"=some (some (.ref f6)))
    (l6:K.lookup f6=some ⟨oc6,od6, .func (PySem.W.fnOf "numbers_of" "numbers_of" (defArgs s_numbers_of) (defBody s_numbers_of) (defScope s_numbers_of) .none kV6 dc6 pm6 an6 cd6 ct6),sl6⟩)
    (c6:PySem.W.codeIn K cd6 "numbers_of"=true)
    (k6:PySem.W.keepIn K (.ref f6)=true)
    (a7:PySem.W.nsIn K mainGlobals "union_of"=some (some (.ref f7)))
    (l7:K.lookup f7=some ⟨oc7,od7, .func (PySem.W.fnOf "union_of" "union_of" (defArgs s_union_of) (defBody s_union_of) (defScope s_union_of) .none kV7 dc7 pm7 an7 cd7 ct7),sl7⟩)
    (c7:PySem.W.codeIn K cd7 "union_of"=true)
    (k7:PySem.W.keepIn K (.ref f7)=true)
    (a8:PySem.W.nsIn K mainGlobals "need_cloth"=some (some (.ref f8)))
    (l8:K.lookup f8=some ⟨oc8,od8, .func (PySem.W.fnOf "need_cloth" "need_cloth" (defArgs s_need_cloth) (defBody s_need_cloth) (defScope s_need_cloth) .none kV8 dc8 pm8 an8 cd8 ct8),sl8⟩)
    (c8:PySem.W.codeIn K cd8 "need_cloth"=true)
    (k8:PySem.W.keepIn K (.ref f8)=true)
    (a9:PySem.W.findIn K (.ref C_Cloth) "__init__"=some (some (.ref f9)))
    (i9:PySem.W.isFn K (.ref f9)=true)
    (l9:K.lookup f9=some ⟨oc9,od9, .func (PySem.W.fnOf "__init__" "Cloth.__init__" (defArgs s_Cloth___init__) (defBody s_Cloth___init__) (defScope s_Cloth___init__) .none kV9 dc9 pm9 an9 cd9 ct9),sl9⟩)
    (c9:PySem.W.codeIn K cd9 "Cloth.__init__"=true)
    (k9:PySem.W.keepIn K (.ref f9)=true)
    (a10:PySem.W.findIn K (.ref C_Cloth) "told"=some (some (.ref f10)))
    (i10:PySem.W.isFn K (.ref f10)=true)
    (l10:K.lookup f10=some ⟨oc10,od10, .func (PySem.W.fnOf "told" "Cloth.told" (defArgs s_Cloth_told) (defBody s_Cloth_told) (defScope s_Cloth_told) .none kV10 dc10 pm10 an10 cd10 ct10),sl10⟩)
    (c10:PySem.W.codeIn K cd10 "Cloth.told"=true)
    (k10:PySem.W.keepIn K (.ref f10)=true)
    (a11:PySem.W.findIn K (.ref C_Cloth) "ends"=some (some (.ref f11)))
    (i11:PySem.W.isFn K (.ref f11)=true)
    (l11:K.lookup f11=some ⟨oc11,od11, .func (PySem.W.fnOf "ends" "Cloth.ends" (defArgs s_Cloth_ends) (defBody s_Cloth_ends) (defScope s_Cloth_ends) .none kV11 dc11 pm11 an11 cd11 ct11),sl11⟩)
    (c11:PySem.W.codeIn K cd11 "Cloth.ends"=true)
    (k11:PySem.W.keepIn K (.ref f11)=true)
    (a12:PySem.W.findIn K (.ref C_Cloth) "picks"=some (some (.ref f12)))
    (i12:PySem.W.isFn K (.ref f12)=true)
    (l12:K.lookup f12=some ⟨oc12,od12, .func (PySem.W.fnOf "picks" "Cloth.picks" (defArgs s_Cloth_picks) (defBody s_Cloth_picks) (defScope s_Cloth_picks) .none kV12 dc12 pm12 an12 cd12 ct12),sl12⟩)
    (c12:PySem.W.codeIn K cd12 "Cloth.picks"=true)
    (k12:PySem.W.keepIn K (.ref f12)=true)
    (a13:PySem.W.nsIn K mainGlobals "is_colour"=some (some (.ref f13)))
    (l13:K.lookup f13=some ⟨oc13,od13, .func (PySem.W.fnOf "is_colour" "is_colour" (defArgs s_is_colour) (defBody s_is_colour) (defScope s_is_colour) .none kV13 dc13 pm13 an13 cd13 ct13),sl13⟩)
    (c13:PySem.W.codeIn K cd13 "is_colour"=true)
    (k13:PySem.W.keepIn K (.ref f13)=true)
    (a14:PySem.W.nsIn K mainGlobals "need"=some (some (.ref f14)))
    (l14:K.lookup f14=some ⟨oc14,od14, .func (PySem.W.fnOf "need" "need" (defArgs s_need) (defBody s_need) (defScope s_need) .none kV14 dc14 pm14 an14 cd14 ct14),sl14⟩)
    (c14:PySem.W.codeIn K cd14 "need"=true)
    (k14:PySem.W.keepIn K (.ref f14)=true)
    (a15:PySem.W.nsIn K mainGlobals "is_list"=some (some (.ref f15)))
    (l15:K.lookup f15=some ⟨oc15,od15, .func (PySem.W.fnOf "is_list" "is_list" (defArgs s_is_list) (defBody s_is_list) (defScope s_is_list) .none kV15 dc15 pm15 an15 cd15 ct15),sl15⟩)
    (c15:PySem.W.codeIn K cd15 "is_list"=true)
    (k15:PySem.W.keepIn K (.ref f15)=true)
    (a16:PySem.W.nsIn K mainGlobals "is_rising"=some (some (.ref f16)))
    (l16:K.lookup f16=some ⟨oc16,od16, .func (PySem.W.fnOf "is_rising" "is_rising" (defArgs s_is_rising) (defBody s_is_rising) (defScope s_is_rising) .none kV16 dc16 pm16 an16 cd16 ct16),sl16⟩)
    (c16:PySem.W.codeIn K cd16 "is_rising"=true)
    (k16:PySem.W.keepIn K (.ref f16)=true)
    (a17:PySem.W.nsIn K mainGlobals "are_rising"=some (some (.ref f17)))
    (l17:K.lookup f17=some ⟨oc17,od17, .func (PySem.W.fnOf "are_rising" "are_rising" (defArgs s_are_rising) (defBody s_are_rising) (defScope s_are_rising) .none kV17 dc17 pm17 an17 cd17 ct17),sl17⟩)
    (c17:PySem.W.codeIn K cd17 "are_rising"=true)
    (k17:PySem.W.keepIn K (.ref f17)=true)
    (a18:PySem.W.nsIn K mainGlobals "are_colours"=some (some (.ref f18)))
    (l18:K.lookup f18=some ⟨oc18,od18, .func (PySem.W.fnOf "are_colours" "are_colours" (defArgs s_are_colours) (defBody s_are_colours) (defScope s_are_colours) .none kV18 dc18 pm18 an18 cd18 ct18),sl18⟩)
    (c18:PySem.W.codeIn K cd18 "are_colours"=true)
    (k18:PySem.W.keepIn K (.ref f18)=true)
    (a19:PySem.W.nsIn K mainGlobals "need_draft"=some (some (.ref f19)))
    (l19:K.lookup f19=some ⟨oc19,od19, .func (PySem.W.fnOf "need_draft" "need_draft" (defArgs s_need_draft) (defBody s_need_draft) (defScope s_need_draft) .none kV19 dc19 pm19 an19 cd19 ct19),sl19⟩)
    (c19:PySem.W.codeIn K cd19 "need_draft"=true)
    (k19:PySem.W.keepIn K (.ref f19)=true)
    (a20:PySem.W.findIn K (.ref C_Draft) "__init__"=some (some (.ref f20)))
    (i20:PySem.W.isFn K (.ref f20)=true)
    (l20:K.lookup f20=some ⟨oc20,od20, .func (PySem.W.fnOf "__init__" "Draft.__init__" (defArgs s_Draft___init__) (defBody s_Draft___init__) (defScope s_Draft___init__) .none kV20 dc20 pm20 an20 cd20 ct20),sl20⟩)
    (c20:PySem.W.codeIn K cd20 "Draft.__init__"=true)
    (k20:PySem.W.keepIn K (.ref f20)=true)
    (a21:PySem.W.findIn K (.ref C_Draft) "told"=some (some (.ref f21)))
    (i21:PySem.W.isFn K (.ref f21)=true)
    (l21:K.lookup f21=some ⟨oc21,od21, .func (PySem.W.fnOf "told" "Draft.told" (defArgs s_Draft_told) (defBody s_Draft_told) (defScope s_Draft_told) .none kV21 dc21 pm21 an21 cd21 ct21),sl21⟩)
    (c21:PySem.W.codeIn K cd21 "Draft.told"=true)
    (k21:PySem.W.keepIn K (.ref f21)=true)
    (a22:PySem.W.findIn K (.ref C_Draft) "ends"=some (some (.ref f22)))
    (i22:PySem.W.isFn K (.ref f22)=true)
    (l22:K.lookup f22=some ⟨oc22,od22, .func (PySem.W.fnOf "ends" "Draft.ends" (defArgs s_Draft_ends) (defBody s_Draft_ends) (defScope s_Draft_ends) .none kV22 dc22 pm22 an22 cd22 ct22),sl22⟩)
    (c22:PySem.W.codeIn K cd22 "Draft.ends"=true)
    (k22:PySem.W.keepIn K (.ref f22)=true)
    (a23:PySem.W.nsIn K mainGlobals "lift_by"=some (some (.ref f23)))
    (l23:K.lookup f23=some ⟨oc23,od23, .func (PySem.W.fnOf "lift_by" "lift_by" (defArgs s_lift_by) (defBody s_lift_by) (defScope s_lift_by) .none kV23 dc23 pm23 an23 cd23 ct23),sl23⟩)
    (c23:PySem.W.codeIn K cd23 "lift_by"=true)
    (k23:PySem.W.keepIn K (.ref f23)=true)
    (a24:PySem.W.nsIn K mainGlobals "ends_through"=some (some (.ref f24)))
    (l24:K.lookup f24=some ⟨oc24,od24, .func (PySem.W.fnOf "ends_through" "ends_through" (defArgs s_ends_through) (defBody s_ends_through) (defScope s_ends_through) .none kV24 dc24 pm24 an24 cd24 ct24),sl24⟩)
    (c24:PySem.W.codeIn K cd24 "ends_through"=true)
    (k24:PySem.W.keepIn K (.ref f24)=true)
    (a25:PySem.W.nsIn K mainGlobals "shaft_ends"=some (some (.ref f25)))
    (l25:K.lookup f25=some ⟨oc25,od25, .func (PySem.W.fnOf "shaft_ends" "shaft_ends" (defArgs s_shaft_ends) (defBody s_shaft_ends) (defScope s_shaft_ends) .none kV25 dc25 pm25 an25 cd25 ct25),sl25⟩)
    (c25:PySem.W.codeIn K cd25 "shaft_ends"=true)
    (k25:PySem.W.keepIn K (.ref f25)=true)
    (a26:PySem.W.nsIn K mainGlobals "row_by"=some (some (.ref f26)))
    (l26:K.lookup f26=some ⟨oc26,od26, .func (PySem.W.fnOf "row_by" "row_by" (defArgs s_row_by) (defBody s_row_by) (defScope s_row_by) .none kV26 dc26 pm26 an26 cd26 ct26),sl26⟩)
    (c26:PySem.W.codeIn K cd26 "row_by"=true)
    (k26:PySem.W.keepIn K (.ref f26)=true)
    (a27:PySem.W.nsIn K mainGlobals "_law_mixed"=some (some (.ref f27)))
    (l27:K.lookup f27=some ⟨oc27,od27, .func (PySem.W.fnOf "_law_mixed" "_law_mixed" (defArgs s__law_mixed) (defBody s__law_mixed) (defScope s__law_mixed) .none kV27 dc27 pm27 an27 cd27 ct27),sl27⟩)
    (c27:PySem.W.codeIn K cd27 "_law_mixed"=true)
    (k27:PySem.W.keepIn K (.ref f27)=true)
    (a28:PySem.W.nsIn K mainGlobals "_law_cells"=some (some (.ref f28)))
    (l28:K.lookup f28=some ⟨oc28,od28, .func (PySem.W.fnOf "_law_cells" "_law_cells" (defArgs s__law_cells) (defBody s__law_cells) (defScope s__law_cells) .none kV28 dc28 pm28 an28 cd28 ct28),sl28⟩)
    (c28:PySem.W.codeIn K cd28 "_law_cells"=true)
    (k28:PySem.W.keepIn K (.ref f28)=true)
    (a29:PySem.W.nsIn K mainGlobals "_law_numbers"=some (some (.ref f29)))
    (l29:K.lookup f29=some ⟨oc29,od29, .func (PySem.W.fnOf "_law_numbers" "_law_numbers" (defArgs s__law_numbers) (defBody s__law_numbers) (defScope s__law_numbers) .none kV29 dc29 pm29 an29 cd29 ct29),sl29⟩)
    (c29:PySem.W.codeIn K cd29 "_law_numbers"=true)
    (k29:PySem.W.keepIn K (.ref f29)=true)
    (a30:PySem.W.nsIn K mainGlobals "_law_draft"=some (some (.ref f30)))
    (l30:K.lookup f30=some ⟨oc30,od30, .func (PySem.W.fnOf "_law_draft" "_law_draft" (defArgs s__law_draft) (defBody s__law_draft) (defScope s__law_draft) .none kV30 dc30 pm30 an30 cd30 ct30),sl30⟩)
    (c30:PySem.W.codeIn K cd30 "_law_draft"=true)
    (k30:PySem.W.keepIn K (.ref f30)=true)
    (a31:PySem.W.nsIn K mainGlobals "shafts_but"=some (some (.ref f31)))
    (l31:K.lookup f31=some ⟨oc31,od31, .func (PySem.W.fnOf "shafts_but" "shafts_but" (defArgs s_shafts_but) (defBody s_shafts_but) (defScope s_shafts_but) .none kV31 dc31 pm31 an31 cd31 ct31),sl31⟩)
    (c31:PySem.W.codeIn K cd31 "shafts_but"=true)
    (k31:PySem.W.keepIn K (.ref f31)=true)
    (a32:PySem.W.nsIn K mainGlobals "lone_faults"=some (some (.ref f32)))
    (l32:K.lookup f32=some ⟨oc32,od32, .func (PySem.W.fnOf "lone_faults" "lone_faults" (defArgs s_lone_faults) (defBody s_lone_faults) (defScope s_lone_faults) .none kV32 dc32 pm32 an32 cd32 ct32),sl32⟩)
    (c32:PySem.W.codeIn K cd32 "lone_faults"=true)
    (k32:PySem.W.keepIn K (.ref f32)=true)
    (a33:PySem.W.nsIn K mainGlobals "shaft_faults"=some (some (.ref f33)))
    (l33:K.lookup f33=some ⟨oc33,od33, .func (PySem.W.fnOf "shaft_faults" "shaft_faults" (defArgs s_shaft_faults) (defBody s_shaft_faults) (defScope s_shaft_faults) .none kV33 dc33 pm33 an33 cd33 ct33),sl33⟩)
    (c33:PySem.W.codeIn K cd33 "shaft_faults"=true)
    (k33:PySem.W.keepIn K (.ref f33)=true)
    (a34:PySem.W.nsIn K mainGlobals "all_faults"=some (some (.ref f34)))
    (l34:K.lookup f34=some ⟨oc34,od34, .func (PySem.W.fnOf "all_faults" "all_faults" (defArgs s_all_faults) (defBody s_all_faults) (defScope s_all_faults) .none kV34 dc34 pm34 an34 cd34 ct34),sl34⟩)
    (c34:PySem.W.codeIn K cd34 "all_faults"=true)
    (k34:PySem.W.keepIn K (.ref f34)=true)
    (a35:PySem.W.nsIn K mainGlobals "_law_made"=some (some (.ref f35)))
    (l35:K.lookup f35=some ⟨oc35,od35, .func (PySem.W.fnOf "_law_made" "_law_made" (defArgs s__law_made) (defBody s__law_made) (defScope s__law_made) .none kV35 dc35 pm35 an35 cd35 ct35),sl35⟩)
    (c35:PySem.W.codeIn K cd35 "_law_made"=true)
    (k35:PySem.W.keepIn K (.ref f35)=true)
    (a36:PySem.W.nsIn K mainGlobals "_law_all_faults"=some (some (.ref f36)))
    (l36:K.lookup f36=some ⟨oc36,od36, .func (PySem.W.fnOf "_law_all_faults" "_law_all_faults" (defArgs s__law_all_faults) (defBody s__law_all_faults) (defScope s__law_all_faults) .none kV36 dc36 pm36 an36 cd36 ct36),sl36⟩)
    (c36:PySem.W.codeIn K cd36 "_law_all_faults"=true)
    (k36:PySem.W.keepIn K (.ref f36)=true)
    (a37:PySem.W.nsIn K mainGlobals "threading_with"=some (some (.ref f37)))
    (l37:K.lookup f37=some ⟨oc37,od37, .func (PySem.W.fnOf "threading_with" "threading_with" (defArgs s_threading_with) (defBody s_threading_with) (defScope s_threading_with) .none kV37 dc37 pm37 an37 cd37 ct37),sl37⟩)
    (c37:PySem.W.codeIn K cd37 "threading_with"=true)
    (k37:PySem.W.keepIn K (.ref f37)=true)
    (a38:PySem.W.nsIn K mainGlobals "ties_with"=some (some (.ref f38)))
    (l38:K.lookup f38=some ⟨oc38,od38, .func (PySem.W.fnOf "ties_with" "ties_with" (defArgs s_ties_with) (defBody s_ties_with) (defScope s_ties_with) .none kV38 dc38 pm38 an38 cd38 ct38),sl38⟩)
    (c38:PySem.W.codeIn K cd38 "ties_with"=true)
    (k38:PySem.W.keepIn K (.ref f38)=true)
    (a39:PySem.W.nsIn K mainGlobals "carried_with"=some (some (.ref f39)))
    (l39:K.lookup f39=some ⟨oc39,od39, .func (PySem.W.fnOf "carried_with" "carried_with" (defArgs s_carried_with) (defBody s_carried_with) (defScope s_carried_with) .none kV39 dc39 pm39 an39 cd39 ct39),sl39⟩)
    (c39:PySem.W.codeIn K cd39 "carried_with"=true)
    (k39:PySem.W.keepIn K (.ref f39)=true)
    (a40:PySem.W.findIn K (.ref C_Gear) "__init__"=some (some (.ref f40)))
    (i40:PySem.W.isFn K (.ref f40)=true)
    (l40:K.lookup f40=some ⟨oc40,od40, .func (PySem.W.fnOf "__init__" "Gear.__init__" (defArgs s_Gear___init__) (defBody s_Gear___init__) (defScope s_Gear___init__) .none kV40 dc40 pm40 an40 cd40 ct40),sl40⟩)
    (c40:PySem.W.codeIn K cd40 "Gear.__init__"=true)
    (k40:PySem.W.keepIn K (.ref f40)=true)
    (a41:PySem.W.findIn K (.ref C_Gear) "row_of"=some (some (.ref f41)))
    (i41:PySem.W.isFn K (.ref f41)=true)
    (l41:K.lookup f41=some ⟨oc41,od41, .func (PySem.W.fnOf "row_of" "Gear.row_of" (defArgs s_Gear_row_of) (defBody s_Gear_row_of) (defScope s_Gear_row_of) .none kV41 dc41 pm41 an41 cd41 ct41),sl41⟩)
    (c41:PySem.W.codeIn K cd41 "Gear.row_of"=true)
    (k41:PySem.W.keepIn K (.ref f41)=true)
    (a42:PySem.W.nsIn K mainGlobals "weaves_with"=some (some (.ref f42)))
    (l42:K.lookup f42=some ⟨oc42,od42, .func (PySem.W.fnOf "weaves_with" "weaves_with" (defArgs s_weaves_with) (defBody s_weaves_with) (defScope s_weaves_with) .none kV42 dc42 pm42 an42 cd42 ct42),sl42⟩)
    (c42:PySem.W.codeIn K cd42 "weaves_with"=true)
    (k42:PySem.W.keepIn K (.ref f42)=true)
    (a43:PySem.W.findIn K (.ref C_Draft) "picks"=some (some (.ref f43)))
    (i43:PySem.W.isFn K (.ref f43)=true)
    (l43:K.lookup f43=some ⟨oc43,od43, .func (PySem.W.fnOf "picks" "Draft.picks" (defArgs s_Draft_picks) (defBody s_Draft_picks) (defScope s_Draft_picks) .none kV43 dc43 pm43 an43 cd43 ct43),sl43⟩)
    (c43:PySem.W.codeIn K cd43 "Draft.picks"=true)
    (k43:PySem.W.keepIn K (.ref f43)=true)
    (a44:PySem.W.nsIn K mainGlobals "found_faults"=some (some (.ref f44)))
    (l44:K.lookup f44=some ⟨oc44,od44, .func (PySem.W.fnOf "found_faults" "found_faults" (defArgs s_found_faults) (defBody s_found_faults) (defScope s_found_faults) .none kV44 dc44 pm44 an44 cd44 ct44),sl44⟩)
    (c44:PySem.W.codeIn K cd44 "found_faults"=true)
    (k44:PySem.W.keepIn K (.ref f44)=true)
    (a45:PySem.W.nsIn K mainGlobals "_law_whole"=some (some (.ref f45)))
    (l45:K.lookup f45=some ⟨oc45,od45, .func (PySem.W.fnOf "_law_whole" "_law_whole" (defArgs s__law_whole) (defBody s__law_whole) (defScope s__law_whole) .none kV45 dc45 pm45 an45 cd45 ct45),sl45⟩)
    (c45:PySem.W.codeIn K cd45 "_law_whole"=true)
    (k45:PySem.W.keepIn K (.ref f45)=true)
    (a46:PySem.W.nsIn K mainGlobals "_law_lifted"=some (some (.ref f46)))
    (l46:K.lookup f46=some ⟨oc46,od46, .func (PySem.W.fnOf "_law_lifted" "_law_lifted" (defArgs s__law_lifted) (defBody s__law_lifted) (defScope s__law_lifted) .none kV46 dc46 pm46 an46 cd46 ct46),sl46⟩)
    (c46:PySem.W.codeIn K cd46 "_law_lifted"=true)
    (k46:PySem.W.keepIn K (.ref f46)=true)
    (a47:PySem.W.nsIn K mainGlobals "_law_row"=some (some (.ref f47)))
    (l47:K.lookup f47=some ⟨oc47,od47, .func (PySem.W.fnOf "_law_row" "_law_row" (defArgs s__law_row) (defBody s__law_row) (defScope s__law_row) .none kV47 dc47 pm47 an47 cd47 ct47),sl47⟩)
    (c47:PySem.W.codeIn K cd47 "_law_row"=true)
    (k47:PySem.W.keepIn K (.ref f47)=true)
    (a48:PySem.W.nsIn K mainGlobals "_law_rows"=some (some (.ref f48)))
    (l48:K.lookup f48=some ⟨oc48,od48, .func (PySem.W.fnOf "_law_rows" "_law_rows" (defArgs s__law_rows) (defBody s__law_rows) (defScope s__law_rows) .none kV48 dc48 pm48 an48 cd48 ct48),sl48⟩)
    (c48:PySem.W.codeIn K cd48 "_law_rows"=true)
    (k48:PySem.W.keepIn K (.ref f48)=true)
    (a49:PySem.W.nsIn K mainGlobals "law"=some (some (.ref f49)))
    (l49:K.lookup f49=some ⟨oc49,od49, .func (PySem.W.fnOf "law" "law" (defArgs s_law) (defBody s_law) (defScope s_law) .none kV49 dc49 pm49 an49 cd49 ct49),sl49⟩)
    (c49:PySem.W.codeIn K cd49 "law"=true)
    (k49:PySem.W.keepIn K (.ref f49)=true)
    (z0:PySem.W.nsIn K mainGlobals "isinstance"=some none)
    (z1:PySem.W.nsIn K mainGlobals "int"=some none)
    (z2:PySem.W.nsIn K mainGlobals "bool"=some none)
    (z3:PySem.W.nsIn K mainGlobals "str"=some none)
    (z4:PySem.W.nsIn K mainGlobals "list"=some none)
    (z5:PySem.W.nsIn K mainGlobals "tuple"=some none)
    (z6:PySem.W.nsIn K mainGlobals "len"=some none)
    (z7:PySem.W.nsIn K mainGlobals "all"=some none)
    (z8:PySem.W.nsIn K mainGlobals "range"=some none)
    (z9:PySem.W.nsIn K mainGlobals "sum"=some none)
    (z10:PySem.W.nsIn K mainGlobals "zip"=some none)
    (z11:PySem.W.nsIn K mainGlobals "enumerate"=some none)
    (y0:PySem.W.nsIn K mainGlobals "MOST_SHAFTS"=some (some (.int 16 tk0)))
    (y1:PySem.W.nsIn K mainGlobals "MOST_TREADLES"=some (some (.int 16 tk1)))
    (y2:PySem.W.nsIn K mainGlobals "MOST_ENDS"=some (some (.int 60 tk2)))
    (y3:PySem.W.nsIn K mainGlobals "MOST_PICKS"=some (some (.int 60 tk3)))
    (y4:PySem.W.nsIn K mainGlobals "COLOURS"=some (some (.str "abcdefghijklmnopqrstuvwxyz" tk4)))
    (y5:PySem.W.nsIn K mainGlobals "UP"=some (some (.str "up" tk5)))
    (y6:PySem.W.nsIn K mainGlobals "DOWN"=some (some (.str "down" tk6)))
    (y7:PySem.W.nsIn K mainGlobals "BROKEN"=some (some (.str "broken" tk7)))
    (y8:PySem.W.nsIn K mainGlobals "LOOSE"=some (some (.str "loose" tk8)))
    (y9:PySem.W.nsIn K mainGlobals "TIED"=some (some (.str "tied" tk9)))
    (y10:PySem.W.nsIn K mainGlobals "DRAWN"=some (some (.str "drawn" tk10)))
    : ∃ fd:FuncData,(∀ (s:Shared) (v:Value),BindsTo s fd ⟨[v],[]⟩ [("_law_script",v)])∧∀ base:Heap,K.In base→base.Ns mainGlobals mg→FnOk l.prog w K mg base CX0 10 fa fd ["_law_script"] (spLaw K):=by
  have e:=hfa.symm.trans (PySem.W.mg_of X G a49)
  cases e
  have F0:=fun_mk (st:=s_is_whole) l0 c0 k0
  have B0:=F0.binds (ps:=["thing"]) fun _ _ _ _ _ _=>arg1 fun _=>rfl
  have D0:DefAt K mg "is_whole" s_is_whole ["thing"] _ _:=⟨F0,PySem.W.mg_of X G a0,B0⟩
  have F1:=fun_mk (st:=s_is_among) l1 c1 k1
  have B1:=F1.binds (ps:=["thing","least","most"]) fun _ _ _ _ _ _=>arg3 fun _ _ _=>rfl
  have D1:DefAt K mg "is_among" s_is_among ["thing","least","most"] _ _:=⟨F1,PySem.W.mg_of X G a1,B1⟩
  have F2:=fun_mk (st:=s_bit_of) l2 c2 k2
  have B2:=F2.binds (ps:=["number"]) fun _ _ _ _ _ _=>arg1 fun _=>rfl
  have D2:DefAt K mg "bit_of" s_bit_of ["number"] _ _:=⟨F2,PySem.W.mg_of X G a2,B2⟩
  have F3:=fun_mk (st:=s_mask_of) l3 c3 k3
  have B3:=F3.binds (ps:=["numbers"]) fun _ _ _ _ _ _=>arg1 fun _=>rfl
  have D3:DefAt K mg "mask_of" s_mask_of ["numbers"] _ _:=⟨F3,PySem.W.mg_of X G a3,B3⟩
  have F4:=fun_mk (st:=s_mask_to) l4 c4 k4
  have B4:=F4.binds (ps:=["most"]) fun _ _ _ _ _ _=>arg1 fun _=>rfl
  have D4:DefAt K mg "mask_to" s_mask_to ["most"] _ _:=⟨F4,PySem.W.mg_of X G a4,B4⟩
  have F5:=fun_mk (st:=s_has_number) l5 c5 k5
  have B5:=F5.binds (ps:=["mask","number"]) fun _ _ _ _ _ _=>arg2 fun _ _=>rfl
  have D5:DefAt K mg "has_number" s_has_number ["mask","number"] _ _:=⟨F5,PySem.W.mg_of X G a5,B5⟩
  have F6:=fun_mk (st:=s_numbers_of) l6 c6 k6
  have B6:=F6.binds (ps:=["mask"]) fun _ _ _ _ _ _=>arg1 fun _=>rfl
  have D6:DefAt K mg "numbers_of" s_numbers_of ["mask"] _ _:=⟨F6,PySem.W.mg_of X G a6,B6⟩
  have F7:=fun_mk (st:=s_union_of) l7 c7 k7
  have B7:=F7.binds (ps:=["masks"]) fun _ _ _ _ _ _=>arg1 fun _=>rfl
  have D7:DefAt K mg "union_of" s_union_of ["masks"] _ _:=⟨F7,PySem.W.mg_of X G a7,B7⟩
  have F8:=fun_mk (st:=s_need_cloth) l8 c8 k8
  have B8:=F8.binds (ps:=["ends","rows"]) fun _ _ _ _ _ _=>arg2 fun _ _=>rfl
  have D8:DefAt K mg "need_cloth" s_need_cloth ["ends","rows"] _ _:=⟨F8,PySem.W.mg_of X G a8,B8⟩
  have F9:=fun_mk (st:=s_Cloth___init__) l9 c9 k9
  have B9:=F9.binds (ps:=["self","ends","rows"]) fun _ _ _ _ _ _=>arg3 fun _ _ _=>rfl
  have F10:=fun_mk (st:=s_Cloth_told) l10 c10 k10
  have B10:=F10.binds (ps:=["self"]) fun _ _ _ _ _ _=>arg1 fun _=>rfl
  have F11:=fun_mk (st:=s_Cloth_ends) l11 c11 k11
  have B11:=F11.binds (ps:=["self"]) fun _ _ _ _ _ _=>arg1 fun _=>rfl
  have F12:=fun_mk (st:=s_Cloth_picks) l12 c12 k12
  have B12:=F12.binds (ps:=["self"]) fun _ _ _ _ _ _=>arg1 fun _=>rfl
  have F13:=fun_mk (st:=s_is_colour) l13 c13 k13
  have B13:=F13.binds (ps:=["thing"]) fun _ _ _ _ _ _=>arg1 fun _=>rfl
  have D13:DefAt K mg "is_colour" s_is_colour ["thing"] _ _:=⟨F13,PySem.W.mg_of X G a13,B13⟩
  have F14:=fun_mk (st:=s_need) l14 c14 k14
  have B14:=F14.binds (ps:=["holds","words"]) fun _ _ _ _ _ _=>arg2 fun _ _=>rfl
  have D14:DefAt K mg "need" s_need ["holds","words"] _ _:=⟨F14,PySem.W.mg_of X G a14,B14⟩
  have F15:=fun_mk (st:=s_is_list) l15 c15 k15
  have B15:=F15.binds (ps:=["thing","least","most"]) fun _ _ _ _ _ _=>arg3 fun _ _ _=>rfl
  have D15:DefAt K mg "is_list" s_is_list ["thing","least","most"] _ _:=⟨F15,PySem.W.mg_of X G a15,B15⟩
  have F16:=fun_mk (st:=s_is_rising) l16 c16 k16
  have B16:=F16.binds (ps:=["thing","most"]) fun _ _ _ _ _ _=>arg2 fun _ _=>rfl
  have D16:DefAt K mg "is_rising" s_is_rising ["thing","most"] _ _:=⟨F16,PySem.W.mg_of X G a16,B16⟩
  have F17:=fun_mk (st:=s_are_rising) l17 c17 k17
  have B17:=F17.binds (ps:=["thing","most"]) fun _ _ _ _ _ _=>arg2 fun _ _=>rfl
  have D17:DefAt K mg "are_rising" s_are_rising ["thing","most"] _ _:=⟨F17,PySem.W.mg_of X G a17,B17⟩
  have F18:=fun_mk (st:=s_are_colours) l18 c18 k18
  have B18:=F18.binds (ps:=["thing","many"]) fun _ _ _ _ _ _=>arg2 fun _ _=>rfl
  have D18:DefAt K mg "are_colours" s_are_colours ["thing","many"] _ _:=⟨F18,PySem.W.mg_of X G a18,B18⟩
  have F19:=fun_mk (st:=s_need_draft) l19 c19 k19
  have B19:=F19.binds (ps:=["shafts","treadles","threading","ties","treading","warp","weft"]) fun _ _ _ _ _ _=>arg7 fun _ _ _ _ _ _ _=>rfl
  have D19:DefAt K mg "need_draft" s_need_draft ["shafts","treadles","threading","ties","treading","warp","weft"] _ _:=⟨F19,PySem.W.mg_of X G a19,B19⟩
  have F20:=fun_mk (st:=s_Draft___init__) l20 c20 k20
  have B20:=F20.binds (ps:=["self","shafts","treadles","threading","ties","treading","warp","weft"]) fun _ _ _ _ _ _=>arg8 fun _ _ _ _ _ _ _ _=>rfl
  have F21:=fun_mk (st:=s_Draft_told) l21 c21 k21
  have B21:=F21.binds (ps:=["self"]) fun _ _ _ _ _ _=>arg1 fun _=>rfl
  have F22:=fun_mk (st:=s_Draft_ends) l22 c22 k22
  have B22:=F22.binds (ps:=["self"]) fun _ _ _ _ _ _=>arg1 fun _=>rfl
  have F23:=fun_mk (st:=s_lift_by) l23 c23 k23
  have B23:=F23.binds (ps:=["ties","treadles"]) fun _ _ _ _ _ _=>arg2 fun _ _=>rfl
  have D23:DefAt K mg "lift_by" s_lift_by ["ties","treadles"] _ _:=⟨F23,PySem.W.mg_of X G a23,B23⟩
  have F24:=fun_mk (st:=s_ends_through) l24 c24 k24
  have B24:=F24.binds (ps:=["threading","shaft"]) fun _ _ _ _ _ _=>arg2 fun _ _=>rfl
  have D24:DefAt K mg "ends_through" s_ends_through ["threading","shaft"] _ _:=⟨F24,PySem.W.mg_of X G a24,B24⟩
  have F25:=fun_mk (st:=s_shaft_ends) l25 c25 k25
  have B25:=F25.binds (ps:=["threading","shafts"]) fun _ _ _ _ _ _=>arg2 fun _ _=>rfl
  have D25:DefAt K mg "shaft_ends" s_shaft_ends ["threading","shafts"] _ _:=⟨F25,PySem.W.mg_of X G a25,B25⟩
  have F26:=fun_mk (st:=s_row_by) l26 c26 k26
  have B26:=F26.binds (ps:=["carried","lift"]) fun _ _ _ _ _ _=>arg2 fun _ _=>rfl
  have D26:DefAt K mg "row_by" s_row_by ["carried","lift"] _ _:=⟨F26,PySem.W.mg_of X G a26,B26⟩
  have F27:=fun_mk (st:=s__law_mixed) l27 c27 k27
  have B27:=F27.binds (ps:=["_law_cell","_law_k"]) fun _ _ _ _ _ _=>arg2 fun _ _=>rfl
  have D27:DefAt K mg "_law_mixed" s__law_mixed ["_law_cell","_law_k"] _ _:=⟨F27,PySem.W.mg_of X G a27,B27⟩
  have F28:=fun_mk (st:=s__law_cells) l28 c28 k28
  have B28:=F28.binds (ps:=["_law_script","_law_first"]) fun _ _ _ _ _ _=>arg2 fun _ _=>rfl
  have D28:DefAt K mg "_law_cells" s__law_cells ["_law_script","_law_first"] _ _:=⟨F28,PySem.W.mg_of X G a28,B28⟩
  have F29:=fun_mk (st:=s__law_numbers) l29 c29 k29
  have B29:=F29.binds (ps:=["_law_mask","_law_most"]) fun _ _ _ _ _ _=>arg2 fun _ _=>rfl
  have D29:DefAt K mg "_law_numbers" s__law_numbers ["_law_mask","_law_most"] _ _:=⟨F29,PySem.W.mg_of X G a29,B29⟩
  have F30:=fun_mk (st:=s__law_draft) l30 c30 k30
  have B30:=F30.binds (ps:=["_law_script","_law_most"]) fun _ _ _ _ _ _=>arg2 fun _ _=>rfl
  have D30:DefAt K mg "_law_draft" s__law_draft ["_law_script","_law_most"] _ _:=⟨F30,PySem.W.mg_of X G a30,B30⟩
  have F31:=fun_mk (st:=s_shafts_but) l31 c31 k31
  have B31:=F31.binds (ps:=["left_out","least","most"]) fun _ _ _ _ _ _=>arg3 fun _ _ _=>rfl
  have D31:DefAt K mg "shafts_but" s_shafts_but ["left_out","least","most"] _ _:=⟨F31,PySem.W.mg_of X G a31,B31⟩
  have F32:=fun_mk (st:=s_lone_faults) l32 c32 k32
  have B32:=F32.binds (ps:=["kind","most"]) fun _ _ _ _ _ _=>arg2 fun _ _=>rfl
  have D32:DefAt K mg "lone_faults" s_lone_faults ["kind","most"] _ _:=⟨F32,PySem.W.mg_of X G a32,B32⟩
  have F33:=fun_mk (st:=s_shaft_faults) l33 c33 k33
  have B33:=F33.binds (ps:=["kind","lists"]) fun _ _ _ _ _ _=>arg2 fun _ _=>rfl
  have D33:DefAt K mg "shaft_faults" s_shaft_faults ["kind","lists"] _ _:=⟨F33,PySem.W.mg_of X G a33,B33⟩
  have F34:=fun_mk (st:=s_all_faults) l34 c34 k34
  have B34:=F34.binds (ps:=["draft"]) fun _ _ _ _ _ _=>arg1 fun _=>rfl
  have D34:DefAt K mg "all_faults" s_all_faults ["draft"] _ _:=⟨F34,PySem.W.mg_of X G a34,B34⟩
  have F35:=fun_mk (st:=s__law_made) l35 c35 k35
  have B35:=F35.binds (ps:=["_law_told"]) fun _ _ _ _ _ _=>arg1 fun _=>rfl
  have D35:DefAt K mg "_law_made" s__law_made ["_law_told"] _ _:=⟨F35,PySem.W.mg_of X G a35,B35⟩
  have F36:=fun_mk (st:=s__law_all_faults) l36 c36 k36
  have B36:=F36.binds (ps:=["_law_told"]) fun _ _ _ _ _ _=>arg1 fun _=>rfl
  have D36:DefAt K mg "_law_all_faults" s__law_all_faults ["_law_told"] _ _:=⟨F36,PySem.W.mg_of X G a36,B36⟩
  have F37:=fun_mk (st:=s_threading_with) l37 c37 k37
  have B37:=F37.binds (ps:=["draft","fault"]) fun _ _ _ _ _ _=>arg2 fun _ _=>rfl
  have D37:DefAt K mg "threading_with" s_threading_with ["draft","fault"] _ _:=⟨F37,PySem.W.mg_of X G a37,B37⟩
  have F38:=fun_mk (st:=s_ties_with) l38 c38 k38
  have B38:=F38.binds (ps:=["draft","fault"]) fun _ _ _ _ _ _=>arg2 fun _ _=>rfl
  have D38:DefAt K mg "ties_with" s_ties_with ["draft","fault"] _ _:=⟨F38,PySem.W.mg_of X G a38,B38⟩
  have F39:=fun_mk (st:=s_carried_with) l39 c39 k39
  have B39:=F39.binds (ps:=["draft","fault"]) fun _ _ _ _ _ _=>arg2 fun _ _=>rfl
  have D39:DefAt K mg "carried_with" s_carried_with ["draft","fault"] _ _:=⟨F39,PySem.W.mg_of X G a39,B39⟩
  have F40:=fun_mk (st:=s_Gear___init__) l40 c40 k40
  have B40:=F40.binds (ps:=["self","draft","fault"]) fun _ _ _ _ _ _=>arg3 fun _ _ _=>rfl
  have F41:=fun_mk (st:=s_Gear_row_of) l41 c41 k41
  have B41:=F41.binds (ps:=["self","treadles"]) fun _ _ _ _ _ _=>arg2 fun _ _=>rfl
  have F42:=fun_mk (st:=s_weaves_with) l42 c42 k42
  have B42:=F42.binds (ps:=["draft","fault","cloth"]) fun _ _ _ _ _ _=>arg3 fun _ _ _=>rfl
  have D42:DefAt K mg "weaves_with" s_weaves_with ["draft","fault","cloth"] _ _:=⟨F42,PySem.W.mg_of X G a42,B42⟩
  have F43:=fun_mk (st:=s_Draft_picks) l43 c43 k43
  have B43:=F43.binds (ps:=["self"]) fun _ _ _ _ _ _=>arg1 fun _=>rfl
  have F44:=fun_mk (st:=s_found_faults) l44 c44 k44
  have B44:=F44.binds (ps:=["draft","cloth"]) fun _ _ _ _ _ _=>arg2 fun _ _=>rfl
  have D44:DefAt K mg "found_faults" s_found_faults ["draft","cloth"] _ _:=⟨F44,PySem.W.mg_of X G a44,B44⟩
  have F45:=fun_mk (st:=s__law_whole) l45 c45 k45
  have B45:=F45.binds (ps:=["_law_script"]) fun _ _ _ _ _ _=>arg1 fun _=>rfl
  have D45:DefAt K mg "_law_whole" s__law_whole ["_law_script"] _ _:=⟨F45,PySem.W.mg_of X G a45,B45⟩
  have F46:=fun_mk (st:=s__law_lifted) l46 c46 k46
  have B46:=F46.binds (ps:=["_law_told","_law_fault","_law_pick"]) fun _ _ _ _ _ _=>arg3 fun _ _ _=>rfl
  have D46:DefAt K mg "_law_lifted" s__law_lifted ["_law_told","_law_fault","_law_pick"] _ _:=⟨F46,PySem.W.mg_of X G a46,B46⟩
  have F47:=fun_mk (st:=s__law_row) l47 c47 k47
  have B47:=F47.binds (ps:=["_law_told","_law_fault","_law_pick"]) fun _ _ _ _ _ _=>arg3 fun _ _ _=>rfl
  have D47:DefAt K mg "_law_row" s__law_row ["_law_told","_law_fault","_law_pick"] _ _:=⟨F47,PySem.W.mg_of X G a47,B47⟩
  have F48:=fun_mk (st:=s__law_rows) l48 c48 k48
  have B48:=F48.binds (ps:=["_law_told","_law_fault"]) fun _ _ _ _ _ _=>arg2 fun _ _=>rfl
  have D48:DefAt K mg "_law_rows" s__law_rows ["_law_told","_law_fault"] _ _:=⟨F48,PySem.W.mg_of X G a48,B48⟩
  have F49:=fun_mk (st:=s_law) l49 c49 k49
  have B49:=F49.binds (ps:=["_law_script"]) fun _ _ _ _ _ _=>arg1 fun _=>rfl
  have D49:DefAt K mg "law" s_law ["_law_script"] _ _:=⟨F49,PySem.W.mg_of X G a49,B49⟩
  have T:Txt K mg ⟨C_Draft,C_Cloth,C_Gear⟩:={
    own:=fun x hx=>by
      simp only [List.mem_cons,List.not_mem_nil,or_false] at hx
      rcases hx with rfl | rfl | rfl | rfl | rfl | rfl | rfl | rfl | rfl | rfl | rfl | rfl
      · exact PySem.W.mg_none_of X G z0
      · exact PySem.W.mg_none_of X G z1
      · exact PySem.W.mg_none_of X G z2
      · exact PySem.W.mg_none_of X G z3
      · exact PySem.W.mg_none_of X G z4
      · exact PySem.W.mg_none_of X G z5
      · exact PySem.W.mg_none_of X G z6
      · exact PySem.W.mg_none_of X G z7
      · exact PySem.W.mg_none_of X G z8
      · exact PySem.W.mg_none_of X G z9
      · exact PySem.W.mg_none_of X G z10
      · exact PySem.W.mg_none_of X G z11
    g_Draft:=PySem.W.mg_of X G aC_Draft
    kd_Draft:=⟨⟨pg_Draft,hd_Draft,po_Draft,sa_Draft⟩,ha_Draft,hn_Draft,ht_Draft,hm_Draft⟩
    is_Draft:=if_pos (beq_self_eq_true _)
    na_Draft_shafts:=na_Draft_shafts
    na_Draft_treadles:=na_Draft_treadles
    na_Draft_threading:=na_Draft_threading
    na_Draft_ties:=na_Draft_ties
    na_Draft_treading:=na_Draft_treading
    na_Draft_warp:=na_Draft_warp
    na_Draft_weft:=na_Draft_weft
    g_Cloth:=PySem.W.mg_of X G aC_Cloth
    kd_Cloth:=⟨⟨pg_Cloth,hd_Cloth,po_Cloth,sa_Cloth⟩,ha_Cloth,hn_Cloth,ht_Cloth,hm_Cloth⟩
    is_Cloth:=if_pos (beq_self_eq_true _)
    na_Cloth_width:=na_Cloth_width
    na_Cloth_rows:=na_Cloth_rows
    g_Gear:=PySem.W.mg_of X G aC_Gear
    kd_Gear:=⟨⟨pg_Gear,hd_Gear,po_Gear,sa_Gear⟩,ha_Gear,hn_Gear,ht_Gear,hm_Gear⟩
    is_Gear:=if_pos (beq_self_eq_true _)
    na_Gear_tied:=na_Gear_tied
    na_Gear_carried:=na_Gear_carried
    na_Gear_always_up:=na_Gear_always_up
    k_MOST_SHAFTS:=⟨_,PySem.W.mg_of X G y0⟩
    k_MOST_TREADLES:=⟨_,PySem.W.mg_of X G y1⟩
    k_MOST_ENDS:=⟨_,PySem.W.mg_of X G y2⟩
    k_MOST_PICKS:=⟨_,PySem.W.mg_of X G y3⟩
    k_COLOURS:=⟨_,PySem.W.mg_of X G y4⟩
    k_UP:=⟨_,PySem.W.mg_of X G y5⟩
    k_DOWN:=⟨_,PySem.W.mg_of X G y6⟩
    k_BROKEN:=⟨_,PySem.W.mg_of X G y7⟩
    k_LOOSE:=⟨_,PySem.W.mg_of X G y8⟩
    k_TIED:=⟨_,PySem.W.mg_of X G y9⟩
    k_DRAWN:=⟨_,PySem.W.mg_of X G y10⟩
  }
  exact ⟨_,fun s v=> .of_eq rfl,fun base _ _=>by
    have c_is_whole:=D0.call (ok_is_whole (P:=l.prog) (w:=w) (base:=base) F0 T)
    have c_is_among:=D1.call (ok_is_among (P:=l.prog) (w:=w) (base:=base) F1 T c_is_whole)
    have c_bit_of:=D2.call (ok_bit_of (P:=l.prog) (w:=w) (base:=base) F2 T)
    have c_mask_of:=D3.call (ok_mask_of (P:=l.prog) (w:=w) (base:=base) F3 T c_bit_of)
    have c_mask_to:=D4.call (ok_mask_to (P:=l.prog) (w:=w) (base:=base) F4 T)
    have c_has_number:=D5.call (ok_has_number (P:=l.prog) (w:=w) (base:=base) F5 T c_bit_of)
    have c_numbers_of:=D6.call (ok_numbers_of (P:=l.prog) (w:=w) (base:=base) F6 T c_has_number)
    have c_union_of:=D7.call (ok_union_of (P:=l.prog) (w:=w) (base:=base) F7 T)
    have c_need_cloth:=D8.call (ok_need_cloth (P:=l.prog) (w:=w) (base:=base) F8 T c_is_among c_mask_to)
    have m_Cloth:MakeF l.prog w K mg base "Cloth" C_Cloth 4 ["self","ends","rows"] _:=⟨_,_,PySem.W.mg_of X G aC_Cloth,⟨mk_Cloth,a9,i9,kc_Cloth⟩,ok_Cloth___init__ (P:=l.prog) (w:=w) (base:=base) F9 T c_need_cloth,B9⟩
    have d_Cloth_told:MethF l.prog w K mg base C_Cloth "told" 1 ["self"] _:=⟨_,_,T.kd_Cloth.cl,⟨a10,i10,k10⟩,ok_Cloth_told (P:=l.prog) (w:=w) (base:=base) F10 T,B10⟩
    have d_Cloth_ends:MethF l.prog w K mg base C_Cloth "ends" 1 ["self"] _:=⟨_,_,T.kd_Cloth.cl,⟨a11,i11,k11⟩,ok_Cloth_ends (P:=l.prog) (w:=w) (base:=base) F11 T,B11⟩
    have d_Cloth_picks:MethF l.prog w K mg base C_Cloth "picks" 1 ["self"] _:=⟨_,_,T.kd_Cloth.cl,⟨a12,i12,k12⟩,ok_Cloth_picks (P:=l.prog) (w:=w) (base:=base) F12 T,B12⟩
    have c_is_colour:=D13.call (ok_is_colour (P:=l.prog) (w:=w) (base:=base) F13 T)
    have c_need:=D14.call (ok_need (P:=l.prog) (w:=w) (base:=base) F14 T)
    have c_is_list:=D15.call (ok_is_list (P:=l.prog) (w:=w) (base:=base) F15 T c_is_among)
    have c_is_rising:=D16.call (ok_is_rising (P:=l.prog) (w:=w) (base:=base) F16 T c_is_among)
    have c_are_rising:=D17.call (ok_are_rising (P:=l.prog) (w:=w) (base:=base) F17 T c_is_rising)
    have c_are_colours:=D18.call (ok_are_colours (P:=l.prog) (w:=w) (base:=base) F18 T c_is_list c_is_colour)
    have c_need_draft:=D19.call (ok_need_draft (P:=l.prog) (w:=w) (base:=base) F19 T c_need c_is_among c_is_list c_are_rising c_are_colours)
    have m_Draft:MakeF l.prog w K mg base "Draft" C_Draft 6 ["self","shafts","treadles","threading","ties","treading","warp","weft"] _:=⟨_,_,PySem.W.mg_of X G aC_Draft,⟨mk_Draft,a20,i20,kc_Draft⟩,ok_Draft___init__ (P:=l.prog) (w:=w) (base:=base) F20 T c_need_draft,B20⟩
    have d_Draft_told:MethF l.prog w K mg base C_Draft "told" 1 ["self"] _:=⟨_,_,T.kd_Draft.cl,⟨a21,i21,k21⟩,ok_Draft_told (P:=l.prog) (w:=w) (base:=base) F21 T,B21⟩
    have d_Draft_ends:MethF l.prog w K mg base C_Draft "ends" 1 ["self"] _:=⟨_,_,T.kd_Draft.cl,⟨a22,i22,k22⟩,ok_Draft_ends (P:=l.prog) (w:=w) (base:=base) F22 T,B22⟩
    have c_lift_by:=D23.call (ok_lift_by (P:=l.prog) (w:=w) (base:=base) F23 T c_union_of)
    have c_ends_through:=D24.call (ok_ends_through (P:=l.prog) (w:=w) (base:=base) F24 T c_mask_of)
    have c_shaft_ends:=D25.call (ok_shaft_ends (P:=l.prog) (w:=w) (base:=base) F25 T c_ends_through)
    have c_row_by:=D26.call (ok_row_by (P:=l.prog) (w:=w) (base:=base) F26 T c_numbers_of c_union_of)
    have c__law_mixed:=D27.call (ok__law_mixed (P:=l.prog) (w:=w) (base:=base) F27 T)
    have c__law_cells:=D28.call (ok__law_cells (P:=l.prog) (w:=w) (base:=base) F28 T)
    have c__law_numbers:=D29.call (ok__law_numbers (P:=l.prog) (w:=w) (base:=base) F29 T)
    have c__law_draft:=D30.call (ok__law_draft (P:=l.prog) (w:=w) (base:=base) F30 T c__law_mixed c__law_cells c__law_numbers)
    have c_shafts_but:=D31.call (ok_shafts_but (P:=l.prog) (w:=w) (base:=base) F31 T)
    have c_lone_faults:=D32.call (ok_lone_faults (P:=l.prog) (w:=w) (base:=base) F32 T)
    have c_shaft_faults:=D33.call (ok_shaft_faults (P:=l.prog) (w:=w) (base:=base) F33 T)
    have c_all_faults:=D34.call (ok_all_faults (P:=l.prog) (w:=w) (base:=base) F34 T c_lone_faults c_shaft_faults c_shafts_but d_Draft_ends)
    have c__law_made:=D35.call (ok__law_made (P:=l.prog) (w:=w) (base:=base) F35 T m_Draft)
    have c__law_all_faults:=D36.call (ok__law_all_faults (P:=l.prog) (w:=w) (base:=base) F36 T)
    have c_threading_with:=D37.call (ok_threading_with (P:=l.prog) (w:=w) (base:=base) F37 T)
    have c_ties_with:=D38.call (ok_ties_with (P:=l.prog) (w:=w) (base:=base) F38 T c_mask_of c_bit_of)
    have c_carried_with:=D39.call (ok_carried_with (P:=l.prog) (w:=w) (base:=base) F39 T c_shaft_ends c_threading_with)
    have m_Gear:MakeF l.prog w K mg base "Gear" C_Gear 6 ["self","draft","fault"] _:=⟨_,_,PySem.W.mg_of X G aC_Gear,⟨mk_Gear,a40,i40,kc_Gear⟩,ok_Gear___init__ (P:=l.prog) (w:=w) (base:=base) F40 T c_ties_with c_carried_with c_ends_through,B40⟩
    have d_Gear_row_of:MethF l.prog w K mg base C_Gear "row_of" 5 ["self","treadles"] _:=⟨_,_,T.kd_Gear.cl,⟨a41,i41,k41⟩,ok_Gear_row_of (P:=l.prog) (w:=w) (base:=base) F41 T c_row_by c_lift_by,B41⟩
    have c_weaves_with:=D42.call (ok_weaves_with (P:=l.prog) (w:=w) (base:=base) F42 T m_Gear d_Gear_row_of)
    have d_Draft_picks:MethF l.prog w K mg base C_Draft "picks" 1 ["self"] _:=⟨_,_,T.kd_Draft.cl,⟨a43,i43,k43⟩,ok_Draft_picks (P:=l.prog) (w:=w) (base:=base) F43 T,B43⟩
    have c_found_faults:=D44.call (ok_found_faults (P:=l.prog) (w:=w) (base:=base) F44 T d_Draft_ends d_Draft_picks d_Cloth_ends d_Cloth_picks c_all_faults c_weaves_with)
    have c__law_whole:=D45.call (ok__law_whole (P:=l.prog) (w:=w) (base:=base) F45 T)
    have c__law_lifted:=D46.call (ok__law_lifted (P:=l.prog) (w:=w) (base:=base) F46 T)
    have c__law_row:=D47.call (ok__law_row (P:=l.prog) (w:=w) (base:=base) F47 T c__law_lifted)
    have c__law_rows:=D48.call (ok__law_rows (P:=l.prog) (w:=w) (base:=base) F48 T c__law_row)
    exact ok_law F49 T c__law_draft c__law_made c__law_whole c__law_all_faults c__law_rows c__law_mixed m_Cloth c_found_faults d_Cloth_told d_Draft_told
    ⟩
theorem walk {l:PySem.W.OpenLaw} {q:Program} {loose:List Str} {XP:(Str→Option Value)→Heap→Prop} {YP:World→Heap→Prop} {d:DefRec} {K:Params→PySem.W.Frag} (hn:l.most=some 63) (hdf:d.params.defaults=[])
    (hY:∀ (w:World) (h:Heap),YP w h→(K w.params).In h)
    (F:∀ (w:World) (mg:Str→Option Value) (fa:Addr) (h:Heap),(K w.params).In h→h.Ns mainGlobals mg→mg d.name=some (.ref fa)→
      ∃ fd:FuncData,(∀ (s:Shared) (v:Value),BindsTo s fd ⟨[v],[]⟩ [("_law_script",v)])∧∀ base:Heap,(K w.params).In base→base.Ns mainGlobals mg→FnOk l.prog w (K w.params) mg base CX0 10 fa fd ["_law_script"] (spLaw (K w.params))):
    PySem.W.WalkO q loose XP YP l.row.toRowW d [] (fun f vs=>PySem.call f vs):=
  L2.walk_of (n:=63) (k:=10) (x:="_law_script") (CX:=fun _=>CX0) (sp:=fun w=>spLaw (K w.params)) hn (by decide) hdf ⟨rfl,by decide,by decide⟩ hY F (fun _ _ a ns hl _ hS=>⟨a,ns,rfl,hS,hl,fun _=>rfl⟩) fun _ _ _ _ _ z=>z
end K31
open PySem PySem.W PyProof.Rows
set_option maxRecDepth 100000 in
set_option maxHeartbeats 0 in
theorem PySem.Challenge.cw_loomwright_k31_whole_faults_found_holds : PySem.Challenge.rw_loomwright_k31_whole_faults_found.Holds := by
  w_on
  refine PySem.W.holds_law (by first | k_qdec | decide +kernel) fun said=> ?_
  refine PySem.W.holds_open (q:=K31.view) (loose:=[]) (Xt:=K31.Xt) (XP:=PySem.W.XL K31.view []) (Yf:=(PySem.W.kHook K31.frag K31.addrs K31.addrs_eq).obs) (Ya:=(PySem.W.kHook K31.frag K31.addrs K31.addrs_eq).val) (YP:=(PySem.W.kHook K31.frag K31.addrs K31.addrs_eq).says) (N:=K31.fuel) K31.left (PySem.W.kHook K31.frag K31.addrs K31.addrs_eq).of (PySem.W.kHook K31.frag K31.addrs K31.addrs_eq).keeps (fun s e=>PySem.W.xl_of s (Bool.and_eq_true_iff.mp e).1) PySem.W.XL.keeps (by rfl) (by rfl) (by rfl) (fun s e=>PySem.W.recFacts_of (Bool.and_eq_true_iff.mp e).2) (by rfl) (by first | assumption | decide +kernel) (by first | k_qdec | decide +kernel) ⟨rfl,rfl,rfl,rfl,rfl,by decide +kernel⟩ ?hw ?hc
  (case hw=>w_witness2)
  k_fill
  refine K31.walk (l:=PySem.Challenge.rw_loomwright_k31_whole_faults_found) rfl rfl (fun w h Y=>PySem.W.kIn_of Y) ?F
  case F=>
    intro w mg fa h KX G hmg
    refine' K31.all_mk KX G hmg ?_ ?_ ?_ ?_ ?_ ?_ ?_ ?_ ?_ ?_ ?_ ?_ ?_ ?_ ?_ ?_ ?_ ?_ ?_ ?_ ?_ ?_ ?_ ?_ ?_ ?_ ?_ ?_ ?_ ?_ ?_ ?_ ?_ ?_ ?_ ?_ ?_ ?_ ?_ ?_ ?_ ?_ ?_ ?_ ?_ ?_ ?_ ?_ ?_ ?_ ?_ ?_ ?_ ?_ ?_ ?_ ?_ ?_ ?_ ?_ ?_ ?_ ?_ ?_ ?_ ?_ ?_ ?_ ?_ ?_ ?_ ?_ ?_ ?_ ?_ ?_ ?_ ?_ ?_ ?_ ?_ ?_ ?_ ?_ ?_ ?_ ?_ ?_ ?_ ?_ ?_ ?_ ?_ ?_ ?_ ?_ ?_ ?_ ?_ ?_ ?_ ?_ ?_ ?_ ?_ ?_ ?_ ?_ ?_ ?_ ?_ ?_ ?_ ?_ ?_ ?_ ?_ ?_ ?_ ?_ ?_ ?_ ?_ ?_ ?_ ?_ ?_ ?_ ?_ ?_ ?_ ?_ ?_ ?_ ?_ ?_ ?_ ?_ ?_ ?_ ?_ ?_ ?_ ?_ ?_ ?_ ?_ ?_ ?_ ?_ ?_ ?_ ?_ ?_ ?_ ?_ ?_ ?_ ?_ ?_ ?_ ?_ ?_ ?_ ?_ ?_ ?_ ?_ ?_ ?_ ?_ ?_ ?_ ?_ ?_ ?_ ?_ ?_ ?_ ?_ ?_ ?_ ?_ ?_ ?_ ?_ ?_ ?_ ?_ ?_ ?_ ?_ ?_ ?_ ?_ ?_ ?_ ?_ ?_ ?_ ?_ ?_ ?_ ?_ ?_ ?_ ?_ ?_ ?_ ?_ ?_ ?_ ?_ ?_ ?_ ?_ ?_ ?_ ?_ ?_ ?_ ?_ ?_ ?_ ?_ ?_ ?_ ?_ ?_ ?_ ?_ ?_ ?_ ?_ ?_ ?_ ?_ ?_ ?_ ?_ ?_ ?_ ?_ ?_ ?_ ?_ ?_ ?_ ?_ ?_ ?_ ?_ ?_ ?_ ?_ ?_ ?_ ?_ ?_ ?_ ?_ ?_ ?_ ?_ ?_ ?_ ?_ ?_ ?_ ?_ ?_ ?_ ?_ ?_ ?_ ?_ ?_ ?_
    all_goals first | k_is | k_exc | kts_exm | kit_is | kernel_rfl | rfl | exact List.mem_cons_self | decide | skip
