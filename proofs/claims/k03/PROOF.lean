import PyProof.Rows.All
import Wide.All
import OpenK.AllK
import Wide.FinOn
import Lean
import PyProof.EqAt
import PyProof.EqKinds
import PyProof.TupleCall
import PyProof.StrLawsChain
import KE.KIntText
import PyProof.EnumFor
import PyProof.EnumMake
import PyProof.ZipIter
import PyProof.LayNew
import KE.KTurns
import PyProof.Rows.Range3
import KE.KRevSl
import KE.KDictList
import PyProof.Draws
import PyProof.Rows.RuleM_int
import PyProof.Rows.BitMore
import PyProof.NeKinds
import KE.KRevIter
import PyProof.JoinWalk
import KE.KTryMore
import PyProof.ExcArgs
import OpenK.KOwn
import PyProof.ExcBaseAll.ValueError
import KE.KLam
import KE.KNestM
import PySem.Challenge.RW_loomwright_k03_whole_fewest_words
set_option Elab.async false
set_option linter.all false
set_option maxRecDepth 100000
set_option maxHeartbeats 4000000
namespace L2
open PySem PySem.Spec PyProof.Rows
noncomputable abbrev Key := Sum Int Str
noncomputable def keyIs : Key → Value → Bool
  | .inl k, v => Value.isInt k v
  | .inr x, v => Value.isStrOf x v
noncomputable def keyH (w : World) : Key → Int
  | .inl k => hashInt k
  | .inr x => hashStr w x
theorem keyIs_shape : ∀ {k : Key} {v : Value}, keyIs k v = true → (∃ i t, k = Sum.inl i ∧ v = Value.int i t) ∨ (∃ x t, k = Sum.inr x ∧ v = Value.str x t)
  | .inl i, v, h => by
    obtain ⟨t, e⟩ := Value.isInt_shape (k := i) (v := v) h
    exact .inl ⟨i, t, rfl, e⟩
  | .inr x, v, h => by
    obtain ⟨t, e⟩ := Value.isStrOf_shape (x := x) (v := v) h
    exact .inr ⟨x, t, rfl, e⟩
theorem keyIs_int (i : Int) (t : Tok) : keyIs (.inl i) (.int i t) = true := by simp [keyIs, Value.isInt]
theorem keyIs_str (x : Str) (t : Tok) : keyIs (.inr x) (.str x t) = true := by simp [keyIs, Value.isStrOf]
theorem key_ll (a b : Int) : decide ((Sum.inl a : Key) = Sum.inl b) = (a == b) := by
  by_cases e : a = b
  · subst e; simp
  · have h : ¬ (Sum.inl a : Key) = Sum.inl b := fun q => e (Sum.inl.inj q)
    rw [decide_eq_false h]
    exact (beq_eq_false_iff_ne.mpr e).symm
theorem key_rr (a b : Str) : decide ((Sum.inr a : Key) = Sum.inr b) = decide (a = b) := by
  by_cases e : a = b
  · subst e; simp
  · have h : ¬ (Sum.inr a : Key) = Sum.inr b := fun q => e (Sum.inr.inj q)
    rw [decide_eq_false h, decide_eq_false e]
theorem key_lr (a : Int) (b : Str) : decide ((Sum.inl a : Key) = Sum.inr b) = false := decide_eq_false (fun q => nomatch q)
theorem key_rl (a : Str) (b : Int) : decide ((Sum.inr a : Key) = Sum.inl b) = false := decide_eq_false (fun q => nomatch q)
noncomputable def mixKind (prog : Program) (w : World) : PySem.KeyKind prog w Key where
  is := keyIs
  hash := keyH w
  inj := fun v a b ha hb => by
    rcases keyIs_shape ha with ⟨i, t, rfl, rfl⟩ | ⟨x, t, rfl, rfl⟩
    · rcases keyIs_shape hb with ⟨j, u, rfl, e⟩ | ⟨y, u, rfl, e⟩
      · injection e with e1 _; rw [e1]
      · exact nomatch e
    · rcases keyIs_shape hb with ⟨j, u, rfl, e⟩ | ⟨y, u, rfl, e⟩
      · exact nomatch e
      · injection e with e1 _; rw [e1]
  byValue := fun k v h => by
    rcases keyIs_shape h with ⟨i, t, rfl, rfl⟩ | ⟨x, t, rfl, rfl⟩ <;> rfl
  pyHash := fun hv h => by
    rcases keyIs_shape hv with ⟨i, t, rfl, rfl⟩ | ⟨x, t, rfl, rfl⟩
    · exact wpAny_pyHash_int h
    · exact wpAny_pyHash_str h
  eqBool := fun hu hv h => by
    rcases keyIs_shape hu with ⟨i, t, rfl, rfl⟩ | ⟨x, t, rfl, rfl⟩
    · rcases keyIs_shape hv with ⟨j, u, rfl, rfl⟩ | ⟨y, u, rfl, rfl⟩
      · rw [key_ll] at h; exact wpAny_eqBool_int h
      · rw [key_lr] at h; exact SeqAt.EqAt.int_str i t y u _ _ _ _ h
    · rcases keyIs_shape hv with ⟨j, u, rfl, rfl⟩ | ⟨y, u, rfl, rfl⟩
      · rw [key_rl] at h; exact SeqAt.EqAt.str_int x t j u _ _ _ _ h
      · rw [key_rr] at h; exact wpAny_eqBool_str h
  «strs» := fun k x t v h => by
    rcases keyIs_shape h with ⟨i, u, rfl, e⟩ | ⟨y, u, rfl, e⟩
    · exact nomatch e
    · injection e with e1 _
      subst e1
      cases v <;> rfl
theorem mixKind_int (prog : Program) (w : World) (i : Int) (t : Tok) : (mixKind prog w).is (.inl i) (.int i t) = true := keyIs_int i t
theorem mixKind_str (prog : Program) (w : World) (x : Str) (t : Tok) : (mixKind prog w).is (.inr x) (.str x t) = true := keyIs_str x t
end L2
namespace L2
open PySem PySem.Spec PyProof.Rows
inductive V where
  | non | bl (b : Bool) | int (i : Int) | str (x : Str) | byt (b : Array UInt8) | flt (b : UInt64) | ref (a : Addr) | ty (n : String)
  deriving DecidableEq
noncomputable def RelV : V → Value → Prop
  | .non, u => u = Value.none
  | .bl b, u => u = Value.bool b
  | .int i, u => ∃ t, u = Value.int i t
  | .str x, u => ∃ t, u = Value.str x t
  | .byt b, u => ∃ t, u = Value.bytes b t
  | .flt b, u => ∃ t, u = Value.float b t
  | .ref a, u => u = Value.ref a
  | .ty n, u => u = Value.type n
noncomputable abbrev Vals : List V → List Value → Prop := Paired RelV
theorem Vals.length {xs : List V} {us : List Value} (r : Vals xs us) : xs.length = us.length := Paired.length r
theorem Vals.get : ∀ {xs : List V} {us : List Value} {i : Nat} {x : V}, Vals xs us → xs[i]? = some x → ∃ u, us[i]? = some u ∧ RelV x u
  | _, _, _, _, .nil, e => by simp at e
  | _, _, 0, _, .cons r _, e => by simp at e; subst e; exact ⟨_, rfl, r⟩
  | _, _, i + 1, x, .cons _ t, e => by
    obtain ⟨u, h1, h2⟩ := Vals.get (i := i) (x := x) t (by simpa using e)
    exact ⟨u, by simpa using h1, h2⟩
theorem Vals.set {x : V} {u : Value} (r : RelV x u) : ∀ {xs : List V} {us : List Value} (i : Nat), Vals xs us → Vals (xs.set i x) (us.set i u)
  | _, _, _, .nil => .nil
  | _, _, 0, .cons _ t => .cons r t
  | _, _, i + 1, .cons q t => .cons q (Vals.set r i t)
theorem Vals.append : ∀ {xs ys : List V} {us ws : List Value}, Vals xs us → Vals ys ws → Vals (xs ++ ys) (us ++ ws)
  | _, _, _, _, .nil, s => s
  | _, _, _, _, .cons r t, s => .cons r (Vals.append t s)
theorem Vals.take : ∀ {xs : List V} {us : List Value} (n : Nat), Vals xs us → Vals (xs.take n) (us.take n)
  | _, _, 0, _ => .nil
  | _, _, _ + 1, .nil => .nil
  | _, _, n + 1, .cons r t => .cons r (Vals.take n t)
theorem Vals.drop : ∀ {xs : List V} {us : List Value} (n : Nat), Vals xs us → Vals (xs.drop n) (us.drop n)
  | _, _, 0, r => r
  | _, _, _ + 1, .nil => .nil
  | _, _, n + 1, .cons _ t => Vals.drop n t
noncomputable def RelO : Option V → Option Value → Prop
  | some v, some u => RelV v u
  | none, none => True
  | _, _ => False
noncomputable def KV {κ : Type} : List (κ × V) → List (κ × Value) → Prop := Paired fun (p : κ × V) (q : κ × Value) => p.1 = q.1 ∧ RelV p.2 q.2
noncomputable def kV : Key → V
  | .inl i => .int i
  | .inr x => .str x
inductive HO where
  | lst (xs : List V)
  | tup (xs : List V)
  | dK (kvs : List (Key × V)) | dT (kvs : List (List Key × V))
  | set (S : Int → Bool) (n : Nat)
  | ins (C dx : Addr) (fs : List (Str × V))
  | own (x : Addr)
  | xd (fs : List (Str × V))
  | met (f x : Addr)
  | rng (lo hi : Int)
  | frz (o : Obj) (u : HO)
  | tbl (ps : Array Value)
  | ext (φ : Heap → Prop)
noncomputable abbrev Hp := Addr → Option HO
noncomputable def upd (H : Hp) (a : Addr) (o : HO) : Hp := fun b => if b = a then some o else H b
theorem upd_same {H : Hp} {a : Addr} {o : HO} : upd H a o a = some o := by unfold upd; rw [if_pos rfl]
theorem upd_ne {H : Hp} {a b : Addr} {o : HO} (h : b ≠ a) : upd H a o b = H b := by unfold upd; rw [if_neg h]
theorem ne_of {H : Hp} {a b : Addr} {o u : HO} (h : H a = some o) (h' : H b = some u) (d : o ≠ u) : a ≠ b := by
  intro e; subst e; rw [h] at h'; exact d (Option.some.inj h')
theorem ne_of_none {H : Hp} {a b : Addr} {o : HO} (h : H a = some o) (h' : H b = none) : a ≠ b := by
  intro e; subst e; rw [h] at h'; cases h'
section
variable (P : Program) (w : World)
noncomputable def ObjOk (H : Hp) (h : Heap) (a : Addr) : HO → Prop
  | .lst xs => xs.length ≤ sizeLine ∧ ∃ (its : List Value) (n : Nat), Vals xs its ∧ h.get? a = some { cls := .type "list", data := .seq its.toArray n }
  | .tup xs => xs.length ≤ sizeLine ∧ ∃ its : List Value, Vals xs its ∧ IsTup h a its.toArray
  | .dK kvs => kvs.length ≤ sizeLine ∧ (a == sysModules) = false ∧ ∃ vs, KV kvs vs ∧ h.DictOf (mixKind P w) a vs
  | .dT kvs => kvs.length ≤ sizeLine ∧ (a == sysModules) = false ∧ ∃ xs : List (List Key × Addr × Value),
      Paired (fun (p : List Key × V) (q : List Key × Addr × Value) => p.1 = q.1 ∧ H q.2.1 = some (.tup (p.1.map kV)) ∧ RelV p.2 q.2.2) kvs xs ∧
      ∃ o es ep, h.get? a = some o ∧ o.ExactDict ∧ o.data = .dict es ep ∧ es.toList = xs.map (entryOfKey (tupleKind (mixKind P w))) ∧ (xs.map (·.1)).Nodup
  | .set S n => h.SetOf (intKind P w) a S n
  | .ins C dx fs => H dx = some (.own a) ∧ fs.length ≤ 1000 ∧ dx ≠ a ∧ h.get? a = some (PySem.W.instObj C dx) ∧
      ∃ mA, h.Ns1 dx mA ∧ (∀ f, RelO (fs.lookup f) (mA f)) ∧ PySem.Within mA (fs.map (·.1))
  | .own _ => ∃ o, h.get? a = some o
  | .xd fs => ∃ mA, h.Ns1 a mA ∧ ∀ f, RelO (fs.lookup f) (mA f)
  | .rng lo hi => ∃ t u v, h.get? a = some { cls := .type "range", data := .fields #[.int lo t, .int hi u, .int 1 v] }
  | .frz o u => h.get? a = some o ∧ ObjOk H h a u
  | .tbl ps => h.get? a = some { cls := .none, data := .fields ps }
  | .met f x => h.get? a = some (PySem.W.methodObj (.ref f) (.ref x))
  | .ext φ => φ h ∧ (∃ o, h.get? a = some o) ∧ ∀ h1 h2 : Heap, φ h1 → (∀ o, h1.get? a = some o → h2.get? a = some o) → φ h2
noncomputable def HOk (H : Hp) (h : Heap) : Prop := ∀ a o, H a = some o → ObjOk P w H h a o
end
section
variable {P : Program} {w : World} {H H' : Hp} {h h' : Heap} {a : Addr} {o : HO}
theorem ObjOk.lt (x : ObjOk P w H h a o) : a < h.objs.size := by
  cases o with
  | lst xs => obtain ⟨_, _, _, _, e⟩ := x; exact Heap.lt_size e
  | tup xs => obtain ⟨_, _, _, p⟩ := x; exact p.lt
  | dK kvs => obtain ⟨_, _, _, _, o, _, _, e, _⟩ := x; exact Heap.lt_size e
  | dT kvs => obtain ⟨_, _, _, _, o, _, _, e, _⟩ := x; exact Heap.lt_size e
  | set S n => obtain ⟨o, _, _, _, e, _⟩ := x; exact Heap.lt_size e
  | ins C dx fs => obtain ⟨_, _, _, e, _⟩ := x; exact Heap.lt_size e
  | own y => obtain ⟨_, e⟩ := x; exact Heap.lt_size e
  | xd fs => obtain ⟨_, ⟨_, _, _, e, _⟩, _⟩ := x; exact Heap.lt_size e
  | rng lo hi => obtain ⟨_, _, _, e⟩ := x; exact Heap.lt_size e
  | frz ob u => obtain ⟨e, _⟩ := x; exact Heap.lt_size e
  | tbl ps => exact Heap.lt_size (show h.get? a = some _ from x)
  | met f y => exact Heap.lt_size (show h.get? a = some _ from x)
  | ext φ => obtain ⟨_, ⟨_, e⟩, _⟩ := x; exact Heap.lt_size e
theorem Paired.mapP {α β : Type} {F G : α → β → Prop} : ∀ {l₁ : List α} {l₂ : List β}, Paired F l₁ l₂ → (∀ a b, F a b → G a b) → Paired G l₁ l₂
  | _, _, .nil, _ => .nil
  | _, _, .cons r t, f => .cons (f _ _ r) (Paired.mapP t f)
theorem ObjOk.stay (x : ObjOk P w H h a o) (k : ∀ b u, (b = a ∨ H b = some (.own a)) → h.get? b = some u → h'.get? b = some u)
    (ho : ∀ b, H b = some (.own a) → H' b = some (.own a)) (ht : ∀ b xs, H b = some (.tup xs) → H' b = some (.tup xs)) : ObjOk P w H' h' a o := by
  induction o with
  | lst xs => obtain ⟨z, its, n, r, e⟩ := x; exact ⟨z, its, n, r, k _ _ (.inl rfl) e⟩
  | tup xs => obtain ⟨z, its, r, ob, e, c⟩ := x; exact ⟨z, its, r, ob, k _ _ (.inl rfl) e, c⟩
  | dK kvs => obtain ⟨z, y, vs, r, ob, es, ep, e, c⟩ := x; exact ⟨z, y, vs, r, ob, es, ep, k _ _ (.inl rfl) e, c⟩
  | dT kvs =>
    obtain ⟨z, y, xs, r, ob, es, ep, e, c⟩ := x
    exact ⟨z, y, xs, Paired.mapP r fun p q z => ⟨z.1, ht _ _ z.2.1, z.2.2⟩, ob, es, ep, k _ _ (.inl rfl) e, c⟩
  | set S n => obtain ⟨ob, es, ep, t, e, c⟩ := x; exact ⟨ob, es, ep, t, k _ _ (.inl rfl) e, c⟩
  | ins C dx fs =>
    obtain ⟨d, z, ne, e, mA, ⟨od, es, ep, e2, c⟩, r⟩ := x
    exact ⟨ho _ d, z, ne, k _ _ (.inl rfl) e, mA, ⟨od, es, ep, k _ _ (.inr d) e2, c⟩, r⟩
  | own y => obtain ⟨ob, e⟩ := x; exact ⟨ob, k _ _ (.inl rfl) e⟩
  | xd fs => obtain ⟨mA, ⟨od, es, ep, e, c⟩, r⟩ := x; exact ⟨mA, ⟨od, es, ep, k _ _ (.inl rfl) e, c⟩, r⟩
  | rng lo hi => obtain ⟨t, u, v, e⟩ := x; exact ⟨t, u, v, k _ _ (.inl rfl) e⟩
  | frz ob u ih => obtain ⟨e, q⟩ := x; exact ⟨k _ _ (.inl rfl) e, ih q⟩
  | tbl ps =>
    have e : h.get? a = some { cls := .none, data := .fields ps } := x
    show h'.get? a = some { cls := .none, data := .fields ps }
    exact k a _ (.inl rfl) e
  | met f y =>
    have e : h.get? a = some (PySem.W.methodObj (.ref f) (.ref y)) := x
    show h'.get? a = some (PySem.W.methodObj (.ref f) (.ref y))
    exact k a _ (.inl rfl) e
  | ext φ => obtain ⟨p, ⟨o, e⟩, st⟩ := x; exact ⟨st _ _ p fun o q => k _ _ (.inl rfl) q, ⟨o, k _ _ (.inl rfl) e⟩, st⟩
theorem HOk.lt (x : HOk P w H h) (e : H a = some o) : a < h.objs.size := (x a o e).lt
theorem HOk.fresh (x : HOk P w H h) (e : h.objs.size ≤ a) : H a = none := by
  cases q : H a with
  | none => rfl
  | some u => exact absurd (Nat.lt_of_lt_of_le (x.lt q) e) (Nat.lt_irrefl _)
theorem HOk.kept (x : HOk P w H h) (k : ∀ b u, h.get? b = some u → h'.get? b = some u) : HOk P w H h' := fun a o e =>
  (x a o e).stay (fun b u _ q => k b u q) (fun _ q => q) fun _ _ q => q
theorem HOk.laid (x : HOk P w H h) (k : ∀ b u, h.get? b = some u → h'.get? b = some u) (hp : h.objs.size ≤ a) (new : ObjOk P w (upd H a o) h' a o) : HOk P w (upd H a o) h' := fun b u e => by
  have hn := x.fresh hp
  by_cases hb : b = a
  · subst hb; rw [upd_same] at e; cases e; exact new
  · rw [upd_ne hb] at e
    exact (x b u e).stay (fun c v _ q => k c v q) (fun c q => by rw [upd_ne (ne_of_none q hn)]; exact q) fun c xs q => by rw [upd_ne (ne_of_none q hn)]; exact q
end
noncomputable def Rd (H : Hp) (a : Addr) (u : HO) : Prop := H a = some u ∨ ∃ o, H a = some (.frz o u)
theorem Rd.ok {P : Program} {w : World} {H : Hp} {h : Heap} {a : Addr} {u : HO} (r : Rd H a u) (x : HOk P w H h) : ObjOk P w H h a u := by
  rcases r with r | ⟨o, r⟩
  · exact x a u r
  · obtain ⟨_, q⟩ := x a _ r
    exact q
noncomputable def Mut : Option HO → Prop
  | some (.lst _) => True
  | some (.dK _) => True
  | some (.dT _) => True
  | some (.set _ _) => True
  | some (.ins _ _ _) => True
  | some (.ext _) => True
  | _ => False
section
variable {P : Program} {w : World} {H : Hp} {h h' : Heap} {x e : Addr} {o' : HO}
theorem HOk.write (ok : HOk P w H h) (mu : Mut (H x)) (he : e = x ∨ H e = some (.own x)) (k : ∀ b u, b ≠ e → h.get? b = some u → h'.get? b = some u) (heo : ∃ u, h'.get? e = some u)
    (new : ObjOk P w (upd H x o') h' x o') : HOk P w (upd H x o') h' := fun b u q => by
  have nown : ∀ c y, H c = some (.own y) → c ≠ x := fun c y r z => by subst z; rw [r] at mu; exact mu
  have ntup : ∀ c xs, H c = some (.tup xs) → c ≠ x := fun c xs r z => by subst z; rw [r] at mu; exact mu
  by_cases hb : b = x
  · subst hb; rw [upd_same] at q; cases q; exact new
  · rw [upd_ne hb] at q
    by_cases hbe : b = e
    · have q' : H b = some (.own x) := by
        rcases he with z | z
        · exact absurd (hbe.trans z) hb
        · rw [hbe]; exact z
      rw [q] at q'; cases q'
      obtain ⟨v, hv⟩ := heo
      exact ⟨v, by rw [hbe]; exact hv⟩
    · refine (ok b u q).stay (fun c v hc r => k c v ?_ r) (fun c r => by rw [upd_ne (nown c b r)]; exact r) fun c xs r => by rw [upd_ne (ntup c xs r)]; exact r
      rcases hc with rfl | hc
      · exact hbe
      · rintro rfl
        rcases he with z | z
        · exact nown c b hc z
        · rw [hc] at z; cases z; exact hb rfl
end
structure Un (fs ex : List Addr) (H H' : Hp) (h h' : Heap) : Prop where
  keep : ∀ b o, h.get? b = some o → H b = none → b ∉ fs → b ∉ ex → h'.get? b = some o
  slot : ∀ b o, h.get? b = some o → H b = none → b ∈ fs → b ∉ ex → ∃ sl, h'.get? b = some { o with slots := sl }
  free : ∀ b o, h.get? b = some o → H b = none → b ∉ ex → H' b = none
  there : ∀ b o, h.get? b = some o → b ∉ ex → ∃ o', h'.get? b = some o'
  tups : ∀ b xs, H b = some (.tup xs) → H' b = some (.tup xs)
  frzs : ∀ b o u, H b = some (.frz o u) → H' b = some (.frz o u)
  tbls : ∀ b ps, H b = some (.tbl ps) → ∃ more, H' b = some (.tbl (ps ++ more))
section
variable {fs fs' ex ex' : List Addr} {H H1 H2 : Hp} {h h1 h2 h' : Heap} {a x e : Addr} {o : HO}
theorem Un.any (u : Un fs ex H H1 h h1) {b : Addr} {ob : Obj} (q : h.get? b = some ob) (n : H b = none) (hx : b ∉ ex) : ∃ sl, h1.get? b = some { ob with slots := sl } := by
  by_cases hb : b ∈ fs
  · exact u.slot b ob q n hb hx
  · exact ⟨ob.slots, u.keep b ob q n hb hx⟩
theorem Un.kept (k : ∀ b u, h.get? b = some u → h'.get? b = some u) : Un fs ex H H h h' :=
  ⟨fun b ob q _ _ _ => k b ob q, fun b ob q _ _ _ => ⟨ob.slots, k b ob q⟩, fun _ _ _ n _ => n, fun b ob q _ => ⟨ob, k b ob q⟩, fun _ _ q => q, fun _ _ _ q => q, fun _ ps q => ⟨#[], by rw [q]; simp⟩⟩
theorem Un.refl : Un fs ex H H h h := Un.kept fun _ _ q => q
theorem Un.laid (k : ∀ b u, h.get? b = some u → h'.get? b = some u) (hp : h.objs.size ≤ a) (hn : H a = none) : Un fs ex H (upd H a o) h h' where
  keep := fun b u q _ _ _ => k b u q
  slot := fun b u q _ _ _ => ⟨u.slots, k b u q⟩
  free := fun b u q n _ => by rw [upd_ne (Nat.ne_of_lt (Nat.lt_of_lt_of_le (Heap.lt_size q) hp))]; exact n
  there := fun b u q _ => ⟨u, k b u q⟩
  tups := fun b xs q => by rw [upd_ne (ne_of_none q hn)]; exact q
  frzs := fun b u xs q => by rw [upd_ne (ne_of_none q hn)]; exact q
  tbls := fun b ps q => ⟨#[], by rw [upd_ne (ne_of_none q hn), q]; simp⟩
theorem Un.write (mu : Mut (H x)) (he : e = x ∨ H e = some (.own x)) (k : ∀ b u, b ≠ e → h.get? b = some u → h'.get? b = some u) (heo : ∃ u, h'.get? e = some u) : Un fs ex H (upd H x o) h h' := by
  have hx : ∀ b, H b = none → b ≠ x := fun b n z => by subst z; rw [n] at mu; exact mu
  have hb : ∀ b, H b = none → b ≠ e := fun b n z => by
    subst z
    rcases he with r | r
    · exact hx b n r
    · rw [n] at r; cases r
  have hm : ∀ b u, H b = some u → ¬ Mut (some u) → b ≠ x := fun b u q nm z => by subst z; rw [q] at mu; exact nm mu
  refine ⟨fun b u q n _ _ => k b u (hb b n) q, fun b u q n _ _ => ⟨u.slots, k b u (hb b n) q⟩, fun b u q n _ => by rw [upd_ne (hx b n)]; exact n, fun b u q _ => ?_,
    fun b xs q => by rw [upd_ne (hm b _ q fun z => z)]; exact q, fun b u xs q => by rw [upd_ne (hm b _ q fun z => z)]; exact q, fun b ps q => ⟨#[], by rw [upd_ne (hm b _ q fun z => z), q]; simp⟩⟩
  by_cases hbe : b = e
  · subst hbe; exact heo
  · exact ⟨u, k b u hbe q⟩
end
noncomputable def trk (h : Heap) (H : Hp) : List Addr := (List.range h.objs.size).filter fun a => (H a).isSome
noncomputable def hidT (h : Heap) (H : Hp) : Heap := PySem.W.hideAll h (trk h H)
theorem hidT_size (h : Heap) (H : Hp) : (hidT h H).objs.size = h.objs.size := PySem.W.hideAll_size _ _
theorem hidT_get {h : Heap} {H : Hp} {b : Addr} {o : Obj} (e : h.get? b = some o) (n : H b = none) : (hidT h H).get? b = some o :=
  PySem.W.hideAll_get _ e fun hm => by
    have q : (H b).isSome = true := (List.mem_filter.mp hm).2
    rw [n] at q; simp at q
theorem of_hidT {h : Heap} {H : Hp} {b : Addr} {o : Obj} (e : (hidT h H).get? b = some o) : h.get? b = some o ∧ H b = none := by
  have e' : h.get? b = some o := PySem.W.of_hideAll (trk h H) e
  refine ⟨e', ?_⟩
  cases q : H b with
  | none => rfl
  | some x =>
    have hm : b ∈ trk h H := List.mem_filter.mpr ⟨List.mem_range.mpr (Heap.lt_size e'), by simp [q]⟩
    have z : (hidT h H).get? b = none := PySem.W.hideAll_none (trk h H) hm
    rw [z] at e; cases e
noncomputable def allNews (g h : Heap) (L : Addr) : List (Addr × Obj) := (List.range h.objs.size).filterMap fun a => if a = L ∨ (g.get? a).isSome = true then none else (h.get? a).map fun o => (a, o)
noncomputable def rest (g h : Heap) (L d : Addr) : List (Addr × Obj) := (allNews g h L).filter fun p => decide (p.1 ≠ d)
end L2
namespace L2
open PySem PySem.Spec PyProof.Rows
structure Mod (K : PySem.W.Frag) (mg : Str → Option Value) (base : Heap) : Prop where
  kin : K.In base
  glob : base.Ns mainGlobals mg
  blt : ∃ mb, base.Ns builtinsNs mb ∧ ∀ x : Str, x ≠ "__name__" → mb x = bootBuiltins x
  nolimit : base.NoLimit
structure Cx where
  prog : Program
  w : World
  K : PySem.W.Frag
  mg : Str → Option Value
  base : Heap
  A : Around
  N : List Str
  s₀ : Shared
  H₀ : Hp
  env : Env
  outer : List Env
  stack : List Env
  ex : List Addr
  fn : Str → Bool
  calm : Bool
  pn : List (Addr × Obj)
  xe : Value → Shared → Prop
noncomputable def frs (l : List Env) : List Addr := l.filterMap (·.frame)
noncomputable abbrev Cx.fs (X : Cx) : List Addr := frs X.outer
noncomputable def Vis (sc : Scope) (x : Str) : Prop := sc.names.lookup x = some .local ∨ sc.names.lookup x = some .cell ∨ sc.names.lookup x = some .free
noncomputable def Loc (sc : Scope) (x : Str) : Prop := sc.names.lookup x = some .local ∨ sc.names.lookup x = some .cell
noncomputable def Look (env : Env) (h : Heap) (m : Str → Option Value) (x : Str) (u : Value) : Prop :=
  (env.kindOf x = some .local ∧ m x = some u) ∨ ((env.kindOf x = some .cell ∨ env.kindOf x = some .free) ∧ ∃ c, env.cells.lookup x = some c ∧ h.IsCell c (some u))
structure Cx.Ok (X : Cx) : Prop where
  mod : Mod X.K X.mg X.base
  kind : X.env.scope.kind = .function
  glob : X.env.globals = mainGlobals
  blt : X.env.builtins = builtinsNs
  above : X.s₀.heap.objs.size ≤ X.env.locals
  inj : ∀ x y c, X.env.cells.lookup x = some c → X.env.cells.lookup y = some c → x = y
  has : ∀ x, (X.env.kindOf x = some .cell ∨ X.env.kindOf x = some .free) → ∃ c, X.env.cells.lookup x = some c
  cab : ∀ x c, X.fn x = true → X.env.cells.lookup x = some c → X.s₀.heap.objs.size ≤ c
  hd : X.calm = true → X.A.handled = none
  frames : X.A.frames = some X.stack
  stk : X.stack = X.outer ∨ (X.stack = X.env :: X.outer ∧ X.env.frame = some X.env.locals)
  exf : ∀ b ∈ X.ex, b ≠ X.env.locals ∧ ∀ x c, X.env.cells.lookup x = some c → c ≠ b
  bs : ∀ b o, X.base.get? b = some o → X.s₀.heap.get? b = some o ∧ X.H₀ b = none
  bsz : X.base.objs.size ≤ X.s₀.heap.objs.size
  noex : ∀ b o, X.base.get? b = some o → b ∉ X.ex
  exfs : ∀ b ∈ X.ex, b ∉ X.fs
  funs : X.s₀.heap.FunFrames X.base X.outer
  frf : ∀ b ∈ X.fs, X.H₀ b = none
structure Inv (X : Cx) (pins : List (Addr × Obj)) (σ : List (Option V)) (H : Hp) (s : Shared) : Prop where
  ok : X.Ok
  os : s.os = X.s₀.os
  bare : AllBare s.gens
  base : Un X.fs X.ex X.H₀ H X.s₀.heap s.heap
  loc : ∃ m, s.heap.Ns X.env.locals m ∧ ∀ (i : Nat) (x : Str) (v : V), X.N[i]? = some x → σ[i]? = some (some v) → Vis X.env.scope x → ∃ u, RelV v u ∧ Look X.env s.heap m x u
  cell : ∀ x c, X.env.cells.lookup x = some c → ∃ v, s.heap.IsCell c v
  free : H X.env.locals = none
  freeC : ∀ x c, X.env.cells.lookup x = some c → H c = none
  pin : ∀ p ∈ X.pn ++ pins, s.heap.get? p.1 = some p.2 ∧ H p.1 = none ∧ p.1 ≠ X.env.locals ∧ p.1 ∉ X.fs ∧ ∀ v, p.2.data ≠ .cell v
  hok : HOk X.prog X.w H s.heap
  len : σ.length = X.N.length
section
variable {X : Cx} {pins : List (Addr × Obj)} {σ : List (Option V)} {H H' : Hp} {s : Shared} {h' : Heap}
theorem Cx.Ok.nofr (ok : X.Ok) {b : Addr} {o : Obj} (e : X.base.get? b = some o) : b ∉ X.fs := fun hb => by
  have := (ok.funs.mem hb).1
  rw [e] at this; cases this
theorem Inv.bs (I : Inv X pins σ H s) : ∀ b o, X.base.get? b = some o → s.heap.get? b = some o ∧ H b = none := fun b o e =>
  ⟨I.base.keep b o (I.ok.bs b o e).1 (I.ok.bs b o e).2 (I.ok.nofr e) (I.ok.noex b o e), I.base.free b o (I.ok.bs b o e).1 (I.ok.bs b o e).2 (I.ok.noex b o e)⟩
theorem Inv.bk (I : Inv X pins σ H s) : ∀ b o, X.base.get? b = some o → s.heap.get? b = some o := fun b o e => (I.bs b o e).1
theorem Inv.mod (I : Inv X pins σ H s) : Mod X.K X.mg X.base := I.ok.mod
theorem Inv.kIn (I : Inv X pins σ H s) : X.K.In s.heap := I.ok.mod.kin.keeps I.bk
theorem Inv.fr (I : Inv X pins σ H s) : ∃ m, Fr X.base X.env.locals s.heap m :=
  let ⟨m, hn, _⟩ := I.loc
  ⟨m, hn, I.bk, Nat.le_trans I.ok.bsz I.ok.above⟩
theorem Inv.lt (I : Inv X pins σ H s) : X.env.locals < s.heap.objs.size := let ⟨_, hn, _⟩ := I.loc; hn.lt
theorem Inv.sz (I : Inv X pins σ H s) : X.s₀.heap.objs.size ≤ s.heap.objs.size := Nat.le_trans I.ok.above (Nat.le_of_lt I.lt)
theorem Inv.nofs (I : Inv X pins σ H s) {a : Addr} (h : s.heap.objs.size ≤ a) : a ∉ X.fs := fun hb => by
  obtain ⟨_, o, ho, _⟩ := I.ok.funs.mem hb
  exact absurd (Nat.lt_of_lt_of_le (Heap.lt_size ho) (Nat.le_trans I.sz h)) (Nat.lt_irrefl _)
theorem Inv.cne (I : Inv X pins σ H s) : ∀ x c, X.env.cells.lookup x = some c → c ≠ X.env.locals := fun x c e z => by
  obtain ⟨v, o, ho, hd⟩ := I.cell x c e
  obtain ⟨m, ⟨o', es, ep, ho', hd', _⟩, _⟩ := I.loc
  rw [z, ho'] at ho; cases ho; rw [hd'] at hd; cases hd
theorem Inv.funs (I : Inv X pins σ H s) : s.heap.FunFrames X.base X.outer := by
  have all : ∀ (l : List Env), (∀ b ∈ frs l, b ∈ X.fs) → X.s₀.heap.FunFrames X.base l → s.heap.FunFrames X.base l := by
    intro l
    induction l with
    | nil => intro _ _; trivial
    | cons env r ih =>
      intro hs hl
      obtain ⟨hk, ⟨L, o, hf, hn, ho, hd⟩, hr⟩ := hl
      have hL : L ∈ X.fs := hs L (by unfold frs; rw [List.filterMap_cons, hf]; exact List.mem_cons_self)
      obtain ⟨sl, e⟩ := I.base.slot L o ho (I.ok.frf L hL) hL fun z => I.ok.exfs L z hL
      exact ⟨hk, ⟨L, _, hf, hn, e, hd⟩, ih (fun b hb => hs b (by unfold frs; rw [List.filterMap_cons, hf]; exact List.mem_cons_of_mem _ hb)) hr⟩
  exact all X.outer (fun _ hb => hb) I.ok.funs
theorem Inv.stack (I : Inv X pins σ H s) : s.heap.FunFrames X.base X.stack := by
  rcases I.ok.stk with e | ⟨e, hf⟩
  · rw [e]; exact I.funs
  · rw [e]
    obtain ⟨m, hn, _⟩ := I.loc
    refine .cons (by rw [I.ok.kind]; decide) hf hn ?_ I.funs
    exact Heap.get?_none_of_le (Nat.le_trans I.ok.bsz I.ok.above)
theorem Inv.stkSub (I : Inv X pins σ H s) : ∀ b ∈ frs X.stack, b ∈ X.env.locals :: X.fs := fun b hb => by
  rcases I.ok.stk with e | ⟨e, hf⟩
  · rw [e] at hb; exact List.mem_cons_of_mem _ hb
  · rw [e] at hb
    unfold frs at hb
    rw [List.filterMap_cons, hf] at hb
    exact hb
theorem Inv.stkFree (I : Inv X pins σ H s) : ∀ b ∈ frs X.stack, H b = none := fun b hb => by
  rcases List.mem_cons.mp (I.stkSub b hb) with e | hb
  · rw [e]; exact I.free
  · obtain ⟨_, o, ho, _⟩ := I.ok.funs.mem hb
    exact I.base.free b o ho (I.ok.frf b hb) fun z => I.ok.exfs b z hb
theorem Inv.step {g' : Array GenState} {t' : Nat} {d' : Drawn} {ch : List Addr} (I : Inv X pins σ H s)
    (hch : ∀ b ∈ ch, (b ∈ X.ex ∨ X.s₀.heap.objs.size ≤ b) ∧ b ≠ X.env.locals ∧ (∀ x c, X.env.cells.lookup x = some c → c ≠ b) ∧ ∀ p ∈ X.pn ++ pins, p.1 ≠ b)
    (keep : ∀ b o, b ≠ X.env.locals → b ∉ X.fs → b ∉ ch → s.heap.get? b = some o → H b = none → h'.get? b = some o)
    (slot : ∀ b o, b ≠ X.env.locals → b ∈ X.fs → b ∉ ch → s.heap.get? b = some o → H b = none → ∃ sl, h'.get? b = some { o with slots := sl }) (free : ∀ b o, b ∉ ch → s.heap.get? b = some o → H b = none → H' b = none)
    (there : ∀ b o, b ∉ ch → s.heap.get? b = some o → ∃ o', h'.get? b = some o')
    (tups : ∀ b xs, H b = some (.tup xs) → H' b = some (.tup xs)) (frzs : ∀ b o u, H b = some (.frz o u) → H' b = some (.frz o u)) (tbls : ∀ b ps, H b = some (.tbl ps) → ∃ more, H' b = some (.tbl (ps ++ more)))
    (ns : ∀ m, s.heap.Ns X.env.locals m → h'.Ns X.env.locals m) (hok : HOk X.prog X.w H' h') (hg : AllBare g') :
    Inv X pins σ H' { s with heap := h', gens := g', drawn := d', toks := t' } := by
  have neL : ∀ b o, X.s₀.heap.get? b = some o → b ≠ X.env.locals := fun b o e => Nat.ne_of_lt (Nat.lt_of_lt_of_le (Heap.lt_size e) I.ok.above)
  have neC : ∀ b o, X.s₀.heap.get? b = some o → b ∉ X.ex → b ∉ ch := fun b o e hx hb => by
    rcases (hch b hb).1 with z | z
    · exact hx z
    · exact absurd (Nat.lt_of_lt_of_le (Heap.lt_size e) z) (Nat.lt_irrefl _)
  have cellK : ∀ x c, X.env.cells.lookup x = some c → ∀ v, s.heap.IsCell c v → h'.IsCell c v := fun x c e v ⟨o, ho, hd⟩ => by
    have nch : c ∉ ch := fun z => (hch c z).2.2.1 x c e rfl
    by_cases hc : c ∈ X.fs
    · obtain ⟨sl, q⟩ := slot c o (I.cne x c e) hc nch ho (I.freeC x c e)
      exact ⟨_, q, hd⟩
    · exact ⟨o, keep c o (I.cne x c e) hc nch ho (I.freeC x c e), hd⟩
  refine ⟨I.ok, I.os, hg, ⟨fun b o e n hb hx => ?_, fun b o e n hb hx => ?_, fun b o e n hx => ?_, fun b o e hx => ?_, fun b xs e => tups b xs (I.base.tups b xs e), fun b o xs e => frzs b o xs (I.base.frzs b o xs e), fun b ps e => ?_⟩, ?_, fun x c e => ?_, ?_, fun x c e => ?_, fun p hp => ?_, hok, I.len⟩
  · exact keep b o (neL b o e) hb (neC b o e hx) (I.base.keep b o e n hb hx) (I.base.free b o e n hx)
  · obtain ⟨sl, e1⟩ := I.base.slot b o e n hb hx
    obtain ⟨sl', e2⟩ := slot b _ (neL b o e) hb (neC b o e hx) e1 (I.base.free b o e n hx)
    exact ⟨sl', e2⟩
  · obtain ⟨o', e1⟩ := I.base.there b o e hx
    exact free b o' (neC b o e hx) e1 (I.base.free b o e n hx)
  · obtain ⟨o', e1⟩ := I.base.there b o e hx
    exact there b o' (neC b o e hx) e1
  · obtain ⟨m1, e1⟩ := I.base.tbls b ps e
    obtain ⟨m2, e2⟩ := tbls b _ e1
    exact ⟨m1 ++ m2, by rw [e2, Array.append_assoc]⟩
  · obtain ⟨m, hn, hl⟩ := I.loc
    refine ⟨m, ns m hn, fun i x v e1 e2 e3 => ?_⟩
    obtain ⟨u, r, l⟩ := hl i x v e1 e2 e3
    refine ⟨u, r, ?_⟩
    rcases l with l | ⟨k, c, e, z⟩
    · exact .inl l
    · exact .inr ⟨k, c, e, cellK x c e _ z⟩
  · obtain ⟨v, z⟩ := I.cell x c e
    exact ⟨v, cellK x c e v z⟩
  · obtain ⟨m, ⟨o, _, _, ho, _⟩, _⟩ := I.loc
    exact free _ o (fun z => (hch _ z).2.1 rfl) ho I.free
  · obtain ⟨v, o, ho, hd⟩ := I.cell x c e
    exact free c o (fun z => (hch c z).2.2.1 x c e rfl) ho (I.freeC x c e)
  · obtain ⟨e, n, ne, nf, d⟩ := I.pin p hp
    have nch : p.1 ∉ ch := fun z => (hch p.1 z).2.2.2 p hp rfl
    exact ⟨keep p.1 p.2 ne nf nch e n, free p.1 p.2 nch e n, ne, nf, d⟩
theorem Inv.un {t' : Nat} (I : Inv X pins σ H s) (u : Un X.fs [] H H' s.heap h') (hok : HOk X.prog X.w H' h') : Inv X pins σ H' { s with heap := h', toks := t' } := by
  obtain ⟨m, ⟨o, es, ep, ho, r⟩, _⟩ := id I.loc
  obtain ⟨sl, hL⟩ := u.any ho I.free (by simp)
  exact I.step (g' := s.gens) (d' := s.drawn) (ch := []) (fun _ z => nomatch z) (fun b o _ hb _ e n => u.keep b o e n hb (by simp)) (fun b o _ hb _ e n => u.slot b o e n hb (by simp)) (fun b o _ e n => u.free b o e n (by simp)) (fun b o _ e => u.there b o e (by simp)) u.tups u.frzs u.tbls (fun m' hm => by
    obtain ⟨o', es', ep', ho', r'⟩ := hm
    rw [ho] at ho'; cases ho'
    exact ⟨_, es', ep', hL, r'⟩) hok I.bare
theorem Inv.call {g' : Array GenState} {t' : Nat} {d' : Drawn} {ch : List Addr} (I : Inv X pins σ H s) (u : Un (frs X.stack) ch H H' s.heap h') (hok : HOk X.prog X.w H' h') (hg : AllBare g')
    (hch : ∀ b ∈ ch, (b ∈ X.ex ∨ X.s₀.heap.objs.size ≤ b) ∧ b ≠ X.env.locals ∧ (∀ x c, X.env.cells.lookup x = some c → c ≠ b) ∧ ∀ p ∈ X.pn ++ pins, p.1 ≠ b) :
    Inv X pins σ H' { s with heap := h', gens := g', drawn := d', toks := t' } := by
  obtain ⟨m, ⟨o, es, ep, ho, r⟩, _⟩ := id I.loc
  obtain ⟨sl, hL⟩ := u.any ho I.free fun z => (hch _ z).2.1 rfl
  exact I.step (ch := ch) hch (fun b o hL hb hc e n => u.keep b o e n (fun z => (List.mem_cons.mp (I.stkSub b z)).elim hL hb) hc) (fun b o _ _ hc e n => u.any e n hc) (fun b o hc e n => u.free b o e n hc) (fun b o hc e => u.there b o e hc) u.tups u.frzs u.tbls (fun m' hm => by
    obtain ⟨o', es', ep', ho', r'⟩ := hm
    rw [ho] at ho'; cases ho'
    exact ⟨_, es', ep', hL, r'⟩) hok hg
theorem Inv.turned {t' : Nat} {it : Addr} (I : Inv X pins σ H s) (k : ∀ b o, b ≠ it → s.heap.get? b = some o → h'.get? b = some o) (hn : H it = none) (hL : it ≠ X.env.locals)
    (h1 : it ∈ X.ex ∨ X.s₀.heap.objs.size ≤ it) (h2 : ∀ x c, X.env.cells.lookup x = some c → c ≠ it) (h3 : ∀ p ∈ X.pn ++ pins, p.1 ≠ it) : Inv X pins σ H { s with heap := h', toks := t' } := by
  have nit : ∀ b u, H b = some u → b ≠ it := fun b u e z => by rw [z, hn] at e; cases e
  refine I.step (g' := s.gens) (d' := s.drawn) (ch := [it]) (fun b hb => ?_) (fun b o _ _ hc e _ => k b o (fun z => hc (by simp [z])) e) (fun b o _ _ hc e _ => ⟨o.slots, k b o (fun z => hc (by simp [z])) e⟩) (fun _ _ _ _ n => n)
    (fun b o hc e => ⟨o, k b o (fun z => hc (by simp [z])) e⟩) (fun _ _ e => e) (fun _ _ _ e => e) (fun b ps e => ⟨#[], by rw [e]; simp⟩) (fun m hm => ?_) (fun b u e => ?_) I.bare
  · have e : b = it := by simpa using hb
    subst e
    exact ⟨h1, hL, h2, h3⟩
  · obtain ⟨o, es, ep, ho, r⟩ := hm
    exact ⟨o, es, ep, k _ o (Ne.symm hL) ho, r⟩
  · refine (I.hok b u e).stay (fun c v hc q => k c v ?_ q) (fun _ q => q) fun _ _ q => q
    rcases hc with z | z
    · rw [z]; exact nit b u e
    · exact nit c _ z
theorem Inv.tok (I : Inv X pins σ H s) (t : Nat) : Inv X pins σ H { s with toks := t } := I.un (h' := s.heap) (t' := t) Un.refl I.hok
theorem Inv.kept {t' : Nat} (I : Inv X pins σ H s) (k : ∀ b u, s.heap.get? b = some u → h'.get? b = some u) : Inv X pins σ H { s with heap := h', toks := t' } := I.un (Un.kept k) (I.hok.kept k)
theorem Inv.laid {a : Addr} {o : HO} {t' : Nat} (I : Inv X pins σ H s) (k : ∀ b u, s.heap.get? b = some u → h'.get? b = some u) (hp : s.heap.objs.size ≤ a) (new : ObjOk X.prog X.w (upd H a o) h' a o) :
    Inv X pins σ (upd H a o) { s with heap := h', toks := t' } := I.un (Un.laid k hp (I.hok.fresh hp)) (I.hok.laid k hp new)
theorem Inv.write {x e : Addr} {o : HO} {t' : Nat} (I : Inv X pins σ H s) (mu : Mut (H x)) (he : e = x ∨ H e = some (.own x)) (k : ∀ b u, b ≠ e → s.heap.get? b = some u → h'.get? b = some u) (heo : ∃ u, h'.get? e = some u)
    (new : ObjOk X.prog X.w (upd H x o) h' x o) : Inv X pins σ (upd H x o) { s with heap := h', toks := t' } := I.un (Un.write mu he k heo) (I.hok.write mu he k heo new)
theorem Inv.weak {σ' : List (Option V)} (I : Inv X pins σ H s) (hl : σ'.length = σ.length) (w : ∀ (i : Nat) v, σ'[i]? = some (some v) → σ[i]? = some (some v)) : Inv X pins σ' H s :=
  ⟨I.ok, I.os, I.bare, I.base, let ⟨m, hn, hl'⟩ := I.loc; ⟨m, hn, fun i x v e1 e2 e3 => hl' i x v e1 (w i v e2) e3⟩, I.cell, I.free, I.freeC, I.pin, I.hok, hl.trans I.len⟩
theorem Inv.pins_of {pins' : List (Addr × Obj)} (I : Inv X pins σ H s) (h : ∀ p ∈ pins', s.heap.get? p.1 = some p.2 ∧ H p.1 = none ∧ p.1 ≠ X.env.locals ∧ p.1 ∉ X.fs ∧ ∀ v, p.2.data ≠ .cell v) : Inv X pins' σ H s :=
  ⟨I.ok, I.os, I.bare, I.base, I.loc, I.cell, I.free, I.freeC, fun p hp => (List.mem_append.mp hp).elim (fun z => I.pin p (List.mem_append_left _ z)) (h p), I.hok, I.len⟩
theorem nodup_ix {N : List Str} (hN : N.Nodup) {i j : Nat} {x : Str} (a : N[i]? = some x) (b : N[j]? = some x) : i = j := by
  obtain ⟨h1, e1⟩ := List.getElem?_eq_some_iff.mp a
  obtain ⟨h2, e2⟩ := List.getElem?_eq_some_iff.mp b
  exact (List.getElem_inj hN).mp (e1.trans e2.symm)
theorem store_ok2 {M : Model} {A : Around} {E : Value → Shared → Prop} {i : Nat} {x : Str} {v : V} {u : Value} {Q : Unit → Shared → Prop} (I : Inv X pins σ H s) (hN : X.N.Nodup) (hi : X.N[i]? = some x) (hx : Loc X.env.scope x) (r : RelV v u)
    (h : ∀ s', Inv X pins (σ.set i (some v)) H s' → (∃ a, Heap.SameBut a s.heap s'.heap ∧ (a = X.env.locals ∨ X.env.cells.lookup x = some a)) → Q () s') (hf : X.fn x = true ∨ X.env.scope.names.lookup x = some .local := by first | exact .inl rfl | exact .inr rfl | assumption) : wpAny M A (storeName X.env x u) Q E s := by
  obtain ⟨m, hn, hl⟩ := id I.loc
  have hcls : (X.env.scope.kind == .class || (X.env.scope.kind == .module && X.env.locals != X.env.globals)) = false := by rw [I.ok.kind]; rfl
  have hiσ : i < σ.length := by rw [I.len]; exact (List.getElem?_eq_some_iff.mp hi).1
  have cne := I.cne
  have tracked : ∀ {a : Addr} {h' : Heap}, (∃ o, s.heap.get? a = some o ∧ H a = none) → Heap.SameBut a s.heap h' → HOk X.prog X.w H h' := fun {a h'} ha hs b ob e => by
    obtain ⟨_, _, hfree⟩ := ha
    refine (I.hok b ob e).stay (fun c w' hc q => (hs.2 c ?_).trans q) (fun _ q => q) fun _ _ q => q
    rintro rfl
    rcases hc with rfl | hc
    · rw [hfree] at e; cases e
    · rw [hfree] at hc; cases hc
  rcases hx with hk | hk
  · refine wpAny_storeName_local hk hn (fun h' hn' hs => ?_) hcls
    obtain ⟨oL, _, _, hoL, _⟩ := id hn
    refine h _ ⟨I.ok, I.os, I.bare, ⟨fun b o e n hb hx => ?_, fun b o e n hb hx => ?_, I.base.free, fun b o e hx => ?_, I.base.tups, I.base.frzs, I.base.tbls⟩, ⟨_, hn', fun j y v' e1 e2 e3 => ?_⟩, fun y c e => ?_, I.free, I.freeC, fun p hp => ?_, tracked ⟨oL, hoL, I.free⟩ hs, by simpa using I.len⟩ ⟨_, hs, .inl rfl⟩
    · exact (hs.2 b (Nat.ne_of_lt (Nat.lt_of_lt_of_le (Heap.lt_size e) I.ok.above))).trans (I.base.keep b o e n hb hx)
    · obtain ⟨sl, e1⟩ := I.base.slot b o e n hb hx
      exact ⟨sl, (hs.2 b (Nat.ne_of_lt (Nat.lt_of_lt_of_le (Heap.lt_size e) I.ok.above))).trans e1⟩
    · obtain ⟨o', e1⟩ := I.base.there b o e hx
      exact ⟨o', (hs.2 b (Nat.ne_of_lt (Nat.lt_of_lt_of_le (Heap.lt_size e) I.ok.above))).trans e1⟩
    · by_cases hj : j = i
      · subst hj
        rw [hi] at e1; cases e1
        rw [List.getElem?_set_self hiσ] at e2
        cases e2
        exact ⟨u, r, .inl ⟨hk, by simp⟩⟩
      · rw [List.getElem?_set_ne (Ne.symm hj)] at e2
        obtain ⟨u', r', q⟩ := hl j y v' e1 e2 e3
        refine ⟨u', r', ?_⟩
        rcases q with ⟨k, e⟩ | ⟨k, c, e, z⟩
        · refine .inl ⟨k, ?_⟩
          have : y ≠ x := fun e => hj (nodup_ix hN e1 (e ▸ hi))
          simp [this, e]
        · exact .inr ⟨k, c, e, z.sameBut hs (cne y c e)⟩
    · obtain ⟨w', z⟩ := I.cell y c e
      exact ⟨w', z.sameBut hs (cne y c e)⟩
    · obtain ⟨e, n, ne, nf, d⟩ := I.pin p hp
      exact ⟨(hs.2 p.1 ne).trans e, n, ne, nf, d⟩
  · have hfn : X.fn x = true := by
      rcases hf with z | z
      · exact z
      · rw [z] at hk; cases hk
    obtain ⟨c, hc⟩ := I.ok.has x (.inl hk)
    obtain ⟨w', z⟩ := I.cell x c hc
    refine wpAny_storeName_cell I.ok.kind hk hc z (fun h' hc' hs => ?_)
    obtain ⟨oc, hoc, hocd⟩ := id z
    refine h { s with heap := h' } ⟨I.ok, I.os, I.bare, ⟨fun b o e n hb hx => ?_, fun b o e n hb hx => ?_, I.base.free, fun b o e hx => ?_, I.base.tups, I.base.frzs, I.base.tbls⟩, ⟨m, hn.sameBut hs (Ne.symm (cne x c hc)), fun j y v' e1 e2 e3 => ?_⟩, fun y c' e => ?_, I.free, I.freeC, fun p hp => ?_, tracked ⟨oc, hoc, I.freeC x c hc⟩ hs, by simpa using I.len⟩ ⟨c, hs, .inr hc⟩
    · exact (hs.2 b (Nat.ne_of_lt (Nat.lt_of_lt_of_le (Heap.lt_size e) (I.ok.cab x c hfn hc)))).trans (I.base.keep b o e n hb hx)
    · obtain ⟨sl, e1⟩ := I.base.slot b o e n hb hx
      exact ⟨sl, (hs.2 b (Nat.ne_of_lt (Nat.lt_of_lt_of_le (Heap.lt_size e) (I.ok.cab x c hfn hc)))).trans e1⟩
    · obtain ⟨o', e1⟩ := I.base.there b o e hx
      exact ⟨o', (hs.2 b (Nat.ne_of_lt (Nat.lt_of_lt_of_le (Heap.lt_size e) (I.ok.cab x c hfn hc)))).trans e1⟩
    · by_cases hj : j = i
      · subst hj
        rw [hi] at e1; cases e1
        rw [List.getElem?_set_self hiσ] at e2
        cases e2
        exact ⟨u, r, .inr ⟨.inl hk, c, hc, hc'⟩⟩
      · rw [List.getElem?_set_ne (Ne.symm hj)] at e2
        obtain ⟨u', r', q⟩ := hl j y v' e1 e2 e3
        refine ⟨u', r', ?_⟩
        rcases q with q | ⟨k, c', e, z'⟩
        · exact .inl q
        · refine .inr ⟨k, c', e, z'.sameBut hs ?_⟩
          rintro rfl
          exact hj (nodup_ix hN e1 (I.ok.inj _ _ _ e hc ▸ hi))
    · by_cases hcc : c' = c
      · subst hcc; exact ⟨_, hc'⟩
      · obtain ⟨w2, z2⟩ := I.cell y c' e
        exact ⟨w2, z2.sameBut hs hcc⟩
    · obtain ⟨e, n, ne, nf, d⟩ := I.pin p hp
      refine ⟨(hs.2 p.1 ?_).trans e, n, ne, nf, d⟩
      intro q
      rw [q, hoc] at e
      have q' : oc = p.2 := Option.some.inj e
      exact d w' (by rw [← q']; exact hocd)
theorem store_ok {M : Model} {A : Around} {E : Value → Shared → Prop} {i : Nat} {x : Str} {v : V} {u : Value} {Q : Unit → Shared → Prop} (I : Inv X pins σ H s) (hN : X.N.Nodup) (hi : X.N[i]? = some x) (hx : Loc X.env.scope x) (r : RelV v u)
    (h : ∀ s', Inv X pins (σ.set i (some v)) H s' → Q () s') (hf : X.fn x = true ∨ X.env.scope.names.lookup x = some .local := by first | exact .inl rfl | exact .inr rfl | assumption) : wpAny M A (storeName X.env x u) Q E s :=
  store_ok2 I hN hi hx r (fun s' I' _ => h s' I') hf
theorem Inv.call' {s' : Shared} {ch : List Addr} (I : Inv X pins σ H s) (ho : s'.os = s.os) (u : Un (frs X.stack) ch H H' s.heap s'.heap) (hok : HOk X.prog X.w H' s'.heap) (hg : AllBare s'.gens)
    (hch : ∀ b ∈ ch, (b ∈ X.ex ∨ X.s₀.heap.objs.size ≤ b) ∧ b ≠ X.env.locals ∧ (∀ x c, X.env.cells.lookup x = some c → c ≠ b) ∧ ∀ p ∈ X.pn ++ pins, p.1 ≠ b) : Inv X pins σ H' s' := by
  obtain ⟨h', g', d', t', o'⟩ := s'
  have e : o' = s.os := ho
  subst e
  exact I.call (g' := g') (t' := t') (d' := d') u hok hg hch
end
noncomputable abbrev XK := Value → Option Addr → Hp → Prop
noncomputable abbrev St := List (Option V)
noncomputable abbrev VK := V → Hp → Prop
noncomputable abbrev TE := St → Hp → VK → Prop
noncomputable abbrev TT := St → Hp → (Bool → Hp → Prop) → Prop
noncomputable abbrev TA := St → Hp → (List V → Hp → Prop) → Prop
structure Ends where
  nx : St → Hp → Prop
  rt : VK
  bk : St → Hp → Prop := fun _ _ => False
  ct : St → Hp → Prop := fun _ _ => False
noncomputable abbrev TS := Ends → St → Hp → Prop
noncomputable def EP (X : Cx) (pins : List (Addr × Obj)) (σ : St) (Q : VK) (u : Value) (s' : Shared) : Prop := ∃ v H', Inv X pins σ H' s' ∧ RelV v u ∧ Q v H'
noncomputable def TP (X : Cx) (pins : List (Addr × Obj)) (σ : St) (Q : Bool → Hp → Prop) (b : Bool) (s' : Shared) : Prop := ∃ H', Inv X pins σ H' s' ∧ Q b H'
noncomputable def AP (X : Cx) (pins : List (Addr × Obj)) (σ : St) (Q : List V → Hp → Prop) (us : List Value) (s' : Shared) : Prop := ∃ vs H', Inv X pins σ H' s' ∧ Vals vs us ∧ Q vs H'
noncomputable def SP (X : Cx) (pins : List (Addr × Obj)) (D : Ends) (f : Flow) (s' : Shared) : Prop :=
  match f with
  | .next => ∃ σ' H', Inv X pins σ' H' s' ∧ D.nx σ' H'
  | .brk => ∃ σ' H', Inv X pins σ' H' s' ∧ D.bk σ' H'
  | .cont => ∃ σ' H', Inv X pins σ' H' s' ∧ D.ct σ' H'
  | .ret u => ∃ v σ' H', Inv X pins σ' H' s' ∧ RelV v u ∧ D.rt v H'
noncomputable def PE (X : Cx) (e : Expr) (t : TE) : Prop :=
  ∀ (pins : List (Addr × Obj)) (s : Shared) (σ : St) (H : Hp) (Q : VK), Inv X pins σ H s → t σ H Q → wpAny (model X.prog X.w) X.A (eval e X.env) (EP X pins σ Q) X.xe s
noncomputable def PT (X : Cx) (e : Expr) (t : TT) : Prop :=
  ∀ (pins : List (Addr × Obj)) (s : Shared) (σ : St) (H : Hp) (Q : Bool → Hp → Prop), Inv X pins σ H s → t σ H Q → wpAny (model X.prog X.w) X.A (isTrue e X.env (eval e X.env)) (TP X pins σ Q) X.xe s
noncomputable def PW (X : Cx) (e : Expr) (t : TT) : Prop :=
  ∀ (whole : Sem Value) (pins : List (Addr × Obj)) (s : Shared) (σ : St) (H : Hp) (Q : Bool → Hp → Prop), Inv X pins σ H s → t σ H Q → wpAny (model X.prog X.w) X.A (isTrue e X.env whole) (TP X pins σ Q) X.xe s
theorem PW.pt {X : Cx} {e : Expr} {t : TT} (h : PW X e t) : PT X e t := h _
noncomputable def PA (X : Cx) (es : List Expr) (t : TA) : Prop :=
  ∀ (pos : Pos) (pins : List (Addr × Obj)) (s : Shared) (σ : St) (H : Hp) (Q : List V → Hp → Prop), Inv X pins σ H s → t σ H Q → wpAny (model X.prog X.w) X.A (spliced (backTo pos (starEach es X.env))) (AP X pins σ Q) X.xe s
noncomputable def PS (X : Cx) (st : Stmt) (t : TS) : Prop :=
  ∀ (pins : List (Addr × Obj)) (s : Shared) (σ : St) (H : Hp) (D : Ends), Inv X pins σ H s → t D σ H → wpAny (model X.prog X.w) X.A (exec st X.env) (SP X pins D) X.xe s
noncomputable def PSs (X : Cx) (st : List Stmt) (t : TS) : Prop :=
  ∀ (pins : List (Addr × Obj)) (s : Shared) (σ : St) (H : Hp) (D : Ends), Inv X pins σ H s → t D σ H → wpAny (model X.prog X.w) X.A (execs st X.env) (SP X pins D) X.xe s
theorem thn {α : Type} {t : Sem α} {Q Q' : α → Shared → Prop} {M : Model} {A : Around} {E : Value → Shared → Prop} {s : Shared} (h : wpAny M A t Q E s) (hQ : ∀ a s, Q a s → Q' a s) : wpAny M A t Q' E s := wpAny_mono h hQ fun _ _ x => x
end L2
namespace L2
open PySem PySem.Spec PyProof.Rows
section
variable {X : Cx}
theorem bin {a b : Expr} {ta tb : TE} (ha : PE X a ta) (hb : PE X b tb) {pins : List (Addr × Obj)} {s : Shared} {σ : St} {H : Hp} {R : V → V → Hp → Prop} (I : Inv X pins σ H s) (h : ta σ H fun x H1 => tb σ H1 fun y H2 => R x y H2)
    {α : Type} {Q : α → Shared → Prop} {f : Value → Value → Sem α}
    (hf : ∀ v u s2 x y H2, Inv X pins σ H2 s2 → RelV x v → RelV y u → R x y H2 → wpAny (model X.prog X.w) X.A (f v u) Q X.xe s2) :
    wpAny (model X.prog X.w) X.A (eval a X.env) (fun v s₁ => wpAny (model X.prog X.w) X.A (eval b X.env) (fun u s₂ => wpAny (model X.prog X.w) X.A (f v u) Q X.xe s₂) X.xe s₁) X.xe s := by
  refine thn (ha pins s σ H _ I h) fun v s1 ⟨x, H1, I1, r1, q1⟩ => ?_
  refine thn (hb pins s1 σ H1 _ I1 q1) fun u s2 ⟨y, H2, I2, r2, q2⟩ => ?_
  exact hf v u s2 x y H2 I2 r1 r2 q2
noncomputable def tVar (i : Nat) : TE := fun σ H Q => ∃ v, σ[i]? = some (some v) ∧ Q v H
noncomputable def tC (v : V) : TE := fun _ H Q => Q v H
theorem pe_var {i : Nat} {x : Str} {pos : Pos} (hN : X.N[i]? = some x) (hv : Vis X.env.scope x) (hd : (x == ("__debug__" : Str)) = false := by decide) (hcd : (x == ("__classdict__" : Str)) = false := by decide) : PE X (.Name x pos) (tVar i) := by
  intro pins s σ H Q I h
  obtain ⟨v, e, h⟩ := h
  obtain ⟨m, hn, hl⟩ := I.loc
  obtain ⟨u, r, l⟩ := hl i x v hN e hv
  have fin : EP X pins σ Q u s := ⟨v, H, I, r, h⟩
  rcases l with ⟨hk, hm⟩ | ⟨hk, c, hc, hcell⟩
  · exact wpAny_Name (wpAny_loadName_local I.ok.kind hk hn hm fin) hd
  · rcases hk with hk | hk
    · exact wpAny_Name (wpAny_loadName_cell I.ok.kind hk hc hcell fin) hd
    · exact wpAny_Name (wpAny_loadName_free I.ok.kind hk hc hcell fin hcd) hd
theorem pe_int {i j pos} : PE X (.Constant (.int i) j pos) (tC (.int i)) := fun _ _ _ H _ I h => wpAny_Constant_int ⟨.int i, H, I.tok _, ⟨_, rfl⟩, h⟩
theorem pe_bl {b j pos} : PE X (.Constant (.bool b) j pos) (tC (.bl b)) := fun _ _ _ H _ I h => Constant_bool ⟨.bl b, H, I, rfl, h⟩
theorem pe_non {j pos} : PE X (.Constant .none j pos) (tC .non) := fun _ _ _ H _ I h => Constant_none ⟨.non, H, I, rfl, h⟩
theorem pe_str {x j pos} : PE X (.Constant (.str x) j pos) (tC (.str x)) := fun _ _ _ H _ I h => Calls.Constant_str ⟨.str x, H, I.tok _, ⟨_, rfl⟩, h⟩
noncomputable def Gl (X : Cx) (x : Str) : Prop := X.env.kindOf x = some .globalImplicit
theorem ld_glob {E : Value → Shared → Prop} {pins : List (Addr × Obj)} {s : Shared} {σ : St} {H : Hp} {x : Str} {u : Value} {pos : Pos} {Q : Value → Shared → Prop} (I : Inv X pins σ H s) (hg : Gl X x) (hm : X.mg x = some u) (h : Q u s)
    (hd : (x == ("__debug__" : Str)) = false := by decide) : wpAny (model X.prog X.w) X.A (eval (.Name x pos) X.env) Q E s :=
  Calls.Name_function_global I.ok.kind hg (Calls.loadGlobal_global (by rw [I.ok.glob]; exact I.mod.glob.keeps I.bk) hm h) hd
theorem ld_blt {E : Value → Shared → Prop} {pins : List (Addr × Obj)} {s : Shared} {σ : St} {H : Hp} {x : Str} {u : Value} {pos : Pos} {Q : Value → Shared → Prop} (I : Inv X pins σ H s) (hg : Gl X x) (hm : X.mg x = none) (hv : bootBuiltins x = some u) (h : Q u s)
    (hn : x ≠ "__name__" := by decide) (hd : (x == ("__debug__" : Str)) = false := by decide) : wpAny (model X.prog X.w) X.A (eval (.Name x pos) X.env) Q E s := by
  obtain ⟨mb, h1, h2⟩ := I.mod.blt
  exact Calls.Name_function_global I.ok.kind hg (Calls.loadGlobal_builtin (by rw [I.ok.glob]; exact I.mod.glob.keeps I.bk) hm (by rw [I.ok.blt]; exact h1.keeps I.bk) ((h2 x hn).trans hv) h) hd
theorem pe_glob {x : Str} {v : V} {u : Value} {pos : Pos} (hg : Gl X x) (hm : X.mg x = some u) (r : RelV v u) (hd : (x == ("__debug__" : Str)) = false := by decide) : PE X (.Name x pos) (tC v) :=
  fun _ _ _ H _ I h => ld_glob I hg hm ⟨v, H, I, r, h⟩ hd
theorem pe_bltn {x : Str} {v : V} {u : Value} {pos : Pos} (hg : Gl X x) (hm : X.mg x = none) (hv : bootBuiltins x = some u) (r : RelV v u) (hn : x ≠ "__name__" := by decide) (hd : (x == ("__debug__" : Str)) = false := by decide) : PE X (.Name x pos) (tC v) :=
  fun _ _ _ H _ I h => ld_blt I hg hm hv ⟨v, H, I, r, h⟩ hn hd
variable {a b : Expr} {ta tb : TE} {pos : Pos}
noncomputable def PC (X : Cx) (op : CmpOp) (a b : Expr) (t : TE) : Prop :=
  ∀ (pins : List (Addr × Obj)) (s : Shared) (σ : St) (H : Hp) (Q : VK), Inv X pins σ H s → t σ H Q →
    wpAny (model X.prog X.w) X.A (eval a X.env) (fun v s₁ => wpAny (model X.prog X.w) X.A (eval b X.env) (fun u s₂ => wpAny (model X.prog X.w) X.A (compareOp op v u) (EP X pins σ Q) X.xe s₂) X.xe s₁) X.xe s
theorem nobehind (b : Expr) {op : CmpOp} (h : op ≠ .In) (h2 : op ≠ .NotIn) : behindInMarks op b = false := by
  have e1 : (op == CmpOp.In) = false := by cases op <;> first | rfl | exact absurd rfl h
  have e2 : (op == CmpOp.NotIn) = false := by cases op <;> first | rfl | exact absurd rfl h2
  cases b <;> simp [behindInMarks, e1, e2]
noncomputable def tB (t : TE) : TT := fun σ H Q => t σ H fun x H1 => ∃ c, x = .bl c ∧ Q c H1
theorem pt_cmp {op : CmpOp} {t : TE} (h : PC X op a b t) (h1 : behindInMarks op b = false := by first | exact nobehind _ (by decide) (by decide) | rfl) : PT X (.Compare a [op] [b] pos) (tB t) := by
  intro pins s σ H Q I hw
  refine wpAny_isTrue_Compare1 (thn (h pins s σ H _ I hw) fun v s1 h1 => thn h1 fun u s2 h2 => thn h2 fun c s3 ⟨x, H1, I1, r1, q1⟩ => ?_) h1
  obtain ⟨d, rfl, q⟩ := q1
  cases r1
  exact wpAny_truthy_bool ⟨H1, I1, q⟩
theorem pt_val {e : Expr} {t : TE} (h : PE X e t) (he : ∀ whole, isTrue e X.env whole = (do let v ← whole; standAt e.pos; holding [v] (truthy v)) := by intro _; rfl) : PT X e (tB t) := by
  intro pins s σ H Q I hw
  refine isTrue_plain (thn (h pins s σ H _ I hw) fun v s1 ⟨x, H1, I1, r1, q1⟩ => ?_) (he _)
  obtain ⟨d, rfl, q⟩ := q1
  cases r1
  exact wpAny_truthy_bool ⟨H1, I1, q⟩
variable {tA tB' : TT} {rest : List Expr}
noncomputable def tAnd (t u : TT) : TT := fun σ H Q => t σ H fun c H1 => if c = true then u σ H1 Q else Q false H1
noncomputable def tOr (t u : TT) : TT := fun σ H Q => t σ H fun c H1 => if c = true then Q true H1 else u σ H1 Q
noncomputable def tNot (t : TT) : TT := fun σ H Q => t σ H fun c H1 => Q (!c) H1
theorem pw_and1 (ha : PT X a tA) : PW X (.BoolOp .And [a] pos) tA := by
  intro wh pins s σ H Q I h
  refine isTrue_and (thn (ha pins s σ H Q I h) fun c s1 e => ?_)
  cases c with
  | true => exact isTrue_and_nil e
  | false => exact e
theorem pw_or1 (ha : PT X a tA) : PW X (.BoolOp .Or [a] pos) tA := by
  intro wh pins s σ H Q I h
  refine isTrue_or (thn (ha pins s σ H Q I h) fun c s1 e => ?_)
  cases c with
  | false => exact isTrue_or_nil e
  | true => exact e
theorem pw_and (ha : PT X a tA) (hb : PW X (.BoolOp .And (b :: rest) pos) tB') : PW X (.BoolOp .And (a :: b :: rest) pos) (tAnd tA tB') := by
  intro wh pins s σ H Q I h
  refine isTrue_and (thn (ha pins s σ H _ I h) fun c s1 ⟨H1, I1, q1⟩ => ?_)
  cases c with
  | true => exact hb wh pins s1 σ H1 Q I1 q1
  | false => exact ⟨H1, I1, q1⟩
theorem pw_or (ha : PT X a tA) (hb : PW X (.BoolOp .Or (b :: rest) pos) tB') : PW X (.BoolOp .Or (a :: b :: rest) pos) (tOr tA tB') := by
  intro wh pins s σ H Q I h
  refine isTrue_or (thn (ha pins s σ H _ I h) fun c s1 ⟨H1, I1, q1⟩ => ?_)
  cases c with
  | true => exact ⟨H1, I1, q1⟩
  | false => exact hb wh pins s1 σ H1 Q I1 q1
theorem pt_not (ha : PT X a tA) : PT X (.UnaryOp .Not a pos) (tNot tA) := by
  intro pins s σ H Q I h
  exact isTrue_not (ha pins s σ H (fun c H1 => Q (!c) H1) I h)
noncomputable def tAndV (ta tb : TE) : TE := fun σ H Q => ta σ H fun x H1 => ∃ c, x = .bl c ∧ if c = true then tb σ H1 Q else Q (.bl false) H1
noncomputable def tNotV (ta : TE) : TE := fun σ H Q => ta σ H fun x H1 => ∃ c, x = .bl c ∧ Q (.bl (!c)) H1
theorem pe_one {op} {t : TE} (h : PE X a t) : PE X (.BoolOp op [a] pos) t := fun pins s σ H Q I hw => BoolOp_one (h pins s σ H Q I hw)
theorem pe_and (ha : PE X a ta) (hb : PE X (.BoolOp .And (b :: rest) pos) tb) : PE X (.BoolOp .And (a :: b :: rest) pos) (tAndV ta tb) := by
  intro pins s σ H Q I h
  refine BoolOp_and (thn (ha pins s σ H _ I h) fun v s1 ⟨x, H1, I1, r1, q1⟩ => ?_)
  obtain ⟨c, rfl, q1⟩ := q1
  cases r1
  refine wpAny_truthy_bool ?_
  cases c with
  | true => exact hb pins s1 σ H1 Q I1 q1
  | false => exact ⟨.bl false, H1, I1, rfl, q1⟩
theorem pe_not (ha : PE X a ta) : PE X (.UnaryOp .Not a pos) (tNotV ta) := by
  intro pins s σ H Q I h
  refine UnaryOp_ (thn (ha pins s σ H _ I h) fun v s1 ⟨x, H1, I1, r1, q1⟩ => ?_)
  obtain ⟨c, rfl, q1⟩ := q1
  cases r1
  exact not_of (wpAny_truthy_bool ⟨.bl (!c), H1, I1, rfl, q1⟩)
end
end L2
namespace L2
open PySem PySem.Spec PyProof.Rows
noncomputable def SqL (K : PySem.W.Frag) (H : Hp) (a : Addr) (xs : List V) : Prop :=
  Rd H a (.lst xs) ∨
    ∃ (o : Obj) (its : Array Value) (n : Nat), K.lookup a = some o ∧ o.cls = .type "list" ∧ o.dict = none ∧ o.data = .seq its n ∧ its.size ≤ sizeLine ∧ Vals xs its.toList
noncomputable def SqT (K : PySem.W.Frag) (H : Hp) (a : Addr) (xs : List V) : Prop :=
  Rd H a (.tup xs) ∨
    ∃ (o : Obj) (its : Array Value) (n : Nat), K.lookup a = some o ∧ o.cls = .type "tuple" ∧ o.data = .seq its n ∧ its.size ≤ sizeLine ∧ Vals xs its.toList
noncomputable def absV : Value → Option V
  | .none => some .non
  | .bool b => some (.bl b)
  | .int i _ => some (.int i)
  | .str x _ => some (.str x)
  | .bytes b _ => some (.byt b)
  | .float b _ => some (.flt b)
  | .ref a => some (.ref a)
  | .type n => some (.ty n)
  | _ => none
theorem RelV.abs {x : V} {u : Value} (r : RelV x u) : absV u = some x := by
  cases x with
  | non => cases r; rfl
  | bl _ => cases r; rfl
  | int _ => obtain ⟨t, rfl⟩ := r; rfl
  | str _ => obtain ⟨t, rfl⟩ := r; rfl
  | byt _ => obtain ⟨t, rfl⟩ := r; rfl
  | flt _ => obtain ⟨t, rfl⟩ := r; rfl
  | ref _ => cases r; rfl
  | ty _ => cases r; rfl
theorem RelV.inj {x y : V} {u : Value} (r : RelV x u) (q : RelV y u) : x = y := Option.some.inj (r.abs.symm.trans q.abs)
theorem Vals.inj : ∀ {xs ys : List V} {us : List Value}, Vals xs us → Vals ys us → xs = ys
  | _, _, _, .nil, .nil => rfl
  | _, _, _, .cons r t, .cons r' t' => by rw [r.inj r', Vals.inj t t']
section
variable {X : Cx} {pins : List (Addr × Obj)} {σ : St} {H : Hp} {s : Shared} {a : Addr} {xs ys : List V}
theorem SqL.of {K : PySem.W.Frag} (h : H a = some (.lst xs)) : SqL K H a xs := .inl (.inl h)
theorem SqT.of {K : PySem.W.Frag} (h : H a = some (.tup xs)) : SqT K H a xs := .inl (.inl h)
theorem Inv.list (I : Inv X pins σ H s) (h : SqL X.K H a xs) : ∃ its : List Value, Vals xs its ∧ PlainL s.heap a its.toArray ∧ xs.length ≤ sizeLine := by
  rcases h with h | ⟨o, its, n, hk, hc, hd, hs, hz, r⟩
  · obtain ⟨z, its, n, r, e⟩ := h.ok I.hok
    exact ⟨its, r, ⟨_, n, e, rfl, rfl, rfl⟩, z⟩
  · refine ⟨its.toList, r, ⟨o, n, I.kIn a o hk, hc, hd, by simpa using hs⟩, ?_⟩
    have e := r.length
    simp only [Array.length_toList] at e
    omega
theorem Inv.tuple (I : Inv X pins σ H s) (h : SqT X.K H a xs) : ∃ its : List Value, Vals xs its ∧ IsTup s.heap a its.toArray ∧ xs.length ≤ sizeLine := by
  rcases h with h | ⟨o, its, n, hk, hc, hs, hz, r⟩
  · obtain ⟨z, its, r, p⟩ := h.ok I.hok
    exact ⟨its, r, p, z⟩
  · refine ⟨its.toList, r, ⟨o, I.kIn a o hk, hc, n, by simpa using hs⟩, ?_⟩
    have e := r.length
    simp only [Array.length_toList] at e
    omega
theorem Inv.list_inj (I : Inv X pins σ H s) (h : SqL X.K H a xs) (h' : SqL X.K H a ys) : xs = ys := by
  obtain ⟨its, r, ⟨o, n, e, _, _, d⟩, _⟩ := I.list h
  obtain ⟨its', r', ⟨o', n', e', _, _, d'⟩, _⟩ := I.list h'
  rw [e] at e'; cases e'
  rw [d] at d'
  injection d' with d1 _
  have : its = its' := by simpa using congrArg Array.toList d1
  subst this
  exact r.inj r'
theorem Inv.tuple_inj (I : Inv X pins σ H s) (h : SqT X.K H a xs) (h' : SqT X.K H a ys) : xs = ys := by
  obtain ⟨its, r, ⟨o, e, _, n, d⟩, _⟩ := I.tuple h
  obtain ⟨its', r', ⟨o', e', _, n', d'⟩, _⟩ := I.tuple h'
  rw [e] at e'; cases e'
  rw [d] at d'
  injection d' with d1 _
  have : its = its' := by simpa using congrArg Array.toList d1
  subst this
  exact r.inj r'
end
noncomputable abbrev Cx.wish (X : Cx) (E : Value → Shared → Prop) : Cx := { X with xe := E }
noncomputable abbrev Cx.nox (X : Cx) : Cx := X.wish fun _ _ => False
theorem Cx.Ok.wish {X : Cx} (ok : X.Ok) (E : Value → Shared → Prop) : (X.wish E).Ok :=
  ⟨ok.mod, ok.kind, ok.glob, ok.blt, ok.above, ok.inj, ok.has, ok.cab, ok.hd, ok.frames, ok.stk, ok.exf, ok.bs, ok.bsz, ok.noex, ok.exfs, ok.funs, ok.frf⟩
theorem Cx.Ok.unwish {X : Cx} {E : Value → Shared → Prop} (ok : (X.wish E).Ok) : X.Ok :=
  ⟨ok.mod, ok.kind, ok.glob, ok.blt, ok.above, ok.inj, ok.has, ok.cab, ok.hd, ok.frames, ok.stk, ok.exf, ok.bs, ok.bsz, ok.noex, ok.exfs, ok.funs, ok.frf⟩
section
variable {X : Cx} {pins : List (Addr × Obj)} {σ : St} {H : Hp} {s : Shared} {E : Value → Shared → Prop}
theorem Inv.wish (I : Inv X pins σ H s) (E : Value → Shared → Prop) : Inv (X.wish E) pins σ H s := ⟨I.ok.wish E, I.os, I.bare, I.base, I.loc, I.cell, I.free, I.freeC, I.pin, I.hok, I.len⟩
theorem Inv.unwish (I : Inv (X.wish E) pins σ H s) : Inv X pins σ H s := ⟨I.ok.unwish, I.os, I.bare, I.base, I.loc, I.cell, I.free, I.freeC, I.pin, I.hok, I.len⟩
theorem SP.unwish {D : Ends} {f : Flow} {s' : Shared} (h : SP (X.wish E) pins D f s') : SP X pins D f s' := by
  cases f with
  | next => obtain ⟨σ', H', I, q⟩ := h; exact ⟨σ', H', I.unwish, q⟩
  | brk => obtain ⟨σ', H', I, q⟩ := h; exact ⟨σ', H', I.unwish, q⟩
  | cont => obtain ⟨σ', H', I, q⟩ := h; exact ⟨σ', H', I.unwish, q⟩
  | ret u => obtain ⟨v, σ', H', I, r, q⟩ := h; exact ⟨v, σ', H', I.unwish, r, q⟩
theorem PSs.nox {st : List Stmt} {t : TS} (h : PSs X.nox st t) : PSs X st t := fun pins s σ H D I hw =>
  wpAny_mono (h pins s σ H D (I.wish _) hw) (fun _ _ q => q.unwish) fun _ _ z => False.elim z
end
section
variable {X : Cx} {st : Stmt} {rest : List Stmt} {t u : TS} {e : Expr} {te : TE} {pos : Pos}
noncomputable def tNext : TS := fun D σ H => D.nx σ H
noncomputable def tSeq (t u : TS) : TS := fun D σ H => t { D with nx := u D } σ H
theorem pss_nil : PSs X [] tNext := fun _ _ σ H _ I h => wpAny_execs_nil ⟨σ, H, I, h⟩
theorem pss_cons (h1 : PS X st t) (h2 : PSs X rest u) : PSs X (st :: rest) (tSeq t u) := by
  intro pins s σ H D I h
  refine wpAny_execs_cons (thn (h1 pins s σ H { D with nx := u D } I h) fun f s1 q => ?_)
  cases f with
  | next =>
    obtain ⟨σ', H', I', q⟩ := q
    exact h2 pins s1 σ' H' D I' q
  | ret v => exact q
  | brk => exact q
  | cont => exact q
theorem pss_one (h1 : PS X st t) : PSs X [st] t := by
  intro pins s σ H D I h
  refine wpAny_execs_cons (thn (h1 pins s σ H D I h) fun f s1 q => ?_)
  cases f with
  | next => exact wpAny_execs_nil q
  | ret v => exact q
  | brk => exact q
  | cont => exact q
noncomputable def tCont : TS := fun D σ H => D.ct σ H
theorem ps_continue : PS X (.Continue pos) tCont := fun _ _ σ H _ I h => wpAny_Continue ⟨σ, H, I, h⟩
theorem Inv.quiet {pins : List (Addr × Obj)} {σ : St} {H : Hp} {s : Shared} (I : Inv X pins σ H s) : interactive X.env = false := by simp [interactive, I.ok.kind]
noncomputable def tDrop (te : TE) : TS := fun D σ H => te σ H fun _ H1 => D.nx σ H1
theorem ps_expr (he : PE X e te) (hs : swapsWith e none pos.line X.env = pure false := by rfl) : PS X (.Expr e pos) (tDrop te) := by
  intro pins s σ H D I h
  exact wpAny_Expr_any (thn (he pins s σ H _ I h) fun v s1 ⟨x, H1, I1, r1, q1⟩ => ⟨σ, H1, I1, q1⟩) I.quiet hs
noncomputable def tRet (te : TE) : TS := fun D σ H => te σ H D.rt
theorem ps_ret (he : PE X e te) : PS X (.Return (some e) pos) (tRet te) := by
  intro pins s σ H D I h
  exact wpAny_Return_some (thn (he pins s σ H _ I h) fun v s1 ⟨x, H1, I1, r1, q1⟩ => ⟨x, σ, H1, I1, r1, q1⟩)
noncomputable def tIfS (c : TT) (t u : TS) : TS := fun D σ H => c σ H fun b H1 => if b = true then t D σ H1 else u D σ H1
theorem ps_if {c : Expr} {a b : List Stmt} {tc : TT} (hc : PT X c tc) (ha : PSs X a t) (hb : PSs X b u) : PS X (.If c a b pos) (tIfS tc t u) := by
  intro pins s σ H D I h
  refine wpAny_If (thn (hc pins s σ H _ I h) fun d s1 ⟨H1, I1, q1⟩ => ?_)
  cases d with
  | true => exact ha pins s1 σ H1 D I1 q1
  | false => exact hb pins s1 σ H1 D I1 q1
noncomputable def tNever : TS := fun _ _ _ => False
theorem ps_never : PS X st tNever := fun _ _ _ _ _ _ h => h.elim
end
noncomputable abbrev TG := V → St → Hp → (St → Hp → Prop) → Prop
noncomputable abbrev TGs := List V → St → Hp → (St → Hp → Prop) → Prop
noncomputable def PG (X : Cx) (target : Expr) (t : TG) : Prop :=
  ∀ (pins : List (Addr × Obj)) (s : Shared) (σ : St) (H : Hp) (v : V) (u : Value) (Q : St → Hp → Prop), Inv X pins σ H s → RelV v u → t v σ H Q →
    wpAny (model X.prog X.w) X.A (assign target X.env u) (fun _ s' => ∃ σ' H', Inv X pins σ' H' s' ∧ Q σ' H') X.xe s
noncomputable def PGs (X : Cx) (ts : List Expr) (t : TGs) : Prop :=
  ∀ (pins : List (Addr × Obj)) (s : Shared) (σ : St) (H : Hp) (vs : List V) (us : List Value) (Q : St → Hp → Prop), Inv X pins σ H s → Vals vs us → t vs σ H Q →
    wpAny (model X.prog X.w) X.A (assignInOrder ((assignEach ts X.env).map (·.2)) us) (fun _ s' => ∃ σ' H', Inv X pins σ' H' s' ∧ Q σ' H') X.xe s
noncomputable abbrev TSet := V → V → V → Hp → (Hp → Prop) → Prop
noncomputable def PSet (X : Cx) (t : TSet) : Prop :=
  ∀ (pins : List (Addr × Obj)) (s : Shared) (σ : St) (H : Hp) (o i v : V) (ov iv u : Value) (Q : Hp → Prop), Inv X pins σ H s → RelV o ov → RelV i iv → RelV v u → t o i v H Q →
    wpAny (model X.prog X.w) X.A (setItem ov iv u) (fun _ s' => ∃ H', Inv X pins σ H' s' ∧ Q H') X.xe s
noncomputable abbrev TIp := V → V → Hp → VK → Prop
noncomputable def PIp (X : Cx) (op : Operator) (t : TIp) : Prop :=
  ∀ (pins : List (Addr × Obj)) (s : Shared) (σ : St) (H : Hp) (x y : V) (v u : Value) (Q : VK), Inv X pins σ H s → RelV x v → RelV y u → t x y H Q →
    wpAny (model X.prog X.w) X.A (inplaceOp op v u) (EP X pins σ Q) X.xe s
section
variable {X : Cx} {pos : Pos}
noncomputable def gName (i : Nat) : TG := fun v σ H Q => Q (σ.set i (some v)) H
theorem pg_name {i : Nat} {x : Str} (hN : X.N.Nodup) (hi : X.N[i]? = some x) (hx : Loc X.env.scope x) (hf : X.fn x = true ∨ X.env.scope.names.lookup x = some .local := by first | exact .inl rfl | exact .inr rfl | assumption) : PG X (.Name x pos) (gName i) := by
  intro pins s σ H v u Q I r h
  exact wpAny_assign_Name (store_ok I hN hi hx r (fun s' I' => ⟨_, H, I', h⟩) hf)
noncomputable def gNil : TGs := fun vs σ H Q => vs = [] ∧ Q σ H
noncomputable def gCons (t : TG) (u : TGs) : TGs := fun vs σ H Q => ∃ v r, vs = v :: r ∧ t v σ H fun σ' H' => u r σ' H' Q
theorem pgs_nil : PGs X [] gNil := by
  intro pins s σ H vs us Q I r h
  obtain ⟨e, h⟩ := h
  subst e
  cases r
  exact assignInOrder_nil ⟨σ, H, I, h⟩
theorem pgs_cons {e : Expr} {es : List Expr} {t : TG} {u : TGs} (h1 : PG X e t) (h2 : PGs X es u)
    (hs : (assignEach (e :: es) X.env).map (·.2) = assign e X.env :: (assignEach es X.env).map (·.2) := by rfl) : PGs X (e :: es) (gCons t u) := by
  intro pins s σ H vs us Q I r h
  obtain ⟨v, vr, e1, h⟩ := h
  subst e1
  cases r with
  | cons r rr =>
    rw [hs]
    refine assignInOrder_cons (thn (h1 pins s σ H _ _ _ I r h) fun _ s1 ⟨σ1, H1, I1, q1⟩ => ?_)
    exact h2 pins s1 σ1 H1 _ _ Q I1 rr q1
noncomputable def gTup (K : PySem.W.Frag) (n : Nat) (t : TGs) : TG := fun v σ H Q => ∃ a xs, v = .ref a ∧ SqT K H a xs ∧ xs.length = n ∧ t xs σ H Q
theorem pg_tup {es : List Expr} {k : Nat} {t : TGs} {n : Nat} (hc : X.calm = true) (h : PGs X es t)
    (hn : (assignEach es X.env).length = n := by rfl) (hst : (assignEach es X.env).findIdx? (·.1) = none := by rfl) : PG X (.Tuple es k pos) (gTup X.K n t) := by
  intro pins s σ H v u Q I r hw
  obtain ⟨a, xs, e1, hq, hl, hw⟩ := hw
  subst e1
  cases r
  obtain ⟨its, rv, ht, hz⟩ := I.tuple hq
  refine assign_Tuple_tuple (I.ok.hd hc) ht (by simp [hn, ← hl, rv.length]) hst fun h' hx => ?_
  have I1 : Inv X pins σ H { s with heap := h' } := I.kept (t' := s.toks) fun b o e => hx b o (Nat.ne_of_lt (Heap.lt_size e)) e
  exact h pins _ σ H xs _ Q I1 (by simpa using rv) hw
noncomputable def gSub (to ti : TE) (t : TSet) : TG := fun v σ H Q => to σ H fun o H1 => ti σ H1 fun i H2 => t o i v H2 fun H3 => Q σ H3
theorem pg_sub {o i : Expr} {to ti : TE} {t : TSet} (ho : PE X o to) (hi : PE X i ti) (hs : PSet X t)
    (ha : ∀ v, assign (.Subscript o i pos) X.env v = (do
      let ov ← holding [v] (eval o X.env)
      let iv ← holding [v, ov] (eval i X.env)
      standAt pos
      holding [v, ov, iv] (setItem ov iv v)
      release [v, ov, iv] []) := by intro _; rfl) : PG X (.Subscript o i pos) (gSub to ti t) := by
  intro pins s σ H v u Q I r h
  rw [ha]
  refine wpAny_bind (wpAny_holding (thn (ho pins s σ H _ I h) fun ov s1 ⟨x, H1, I1, r1, q1⟩ => ?_))
  refine wpAny_bind (wpAny_holding (thn (hi pins s1 σ H1 _ I1 q1) fun iv s2 ⟨y, H2, I2, r2, q2⟩ => ?_))
  refine wpAny_bind (wpAny_standAt (wpAny_bind (wpAny_holding (thn (hs pins s2 σ H2 x y v ov iv u _ I2 r1 r2 r q2) fun _ s3 ⟨H3, I3, q3⟩ => ?_))))
  exact wpAny_release ⟨σ, H3, I3, q3⟩
noncomputable def tAsg (te : TE) (g : TG) : TS := fun D σ H => te σ H fun x H1 => g x σ H1 D.nx
theorem ps_asg {tg e : Expr} {te : TE} {g : TG} (he : PE X e te) (hg : PG X tg g) (hs : swapsWithSole [tg] e pos.line X.env = pure false := by rfl) (hw : swappedStores [tg] e X.env = pure none := by rfl)
    (h1 : (assignEach [tg] X.env).map (·.2) = [assign tg X.env] := by rfl) : PS X (.Assign [tg] e pos) (tAsg te g) := by
  intro pins s σ H D I h
  refine wpAny_Assign_stores (thn (he pins s σ H _ I h) fun v s1 ⟨x, H1, I1, r1, q1⟩ => ?_) hs hw
  rw [h1]
  exact thn (hg pins s1 σ H1 x v _ I1 r1 q1) fun _ s2 q => q
theorem ps_set {i : Nat} {x : Str} {e : Expr} {te : TE} {pos' : Pos} (hN : X.N.Nodup) (hi : X.N[i]? = some x) (hx : Loc X.env.scope x) (he : PE X e te) (hs : swapsWith e (some (.Name x pos')) pos.line X.env = pure false := by rfl) (hf : X.fn x = true ∨ X.env.scope.names.lookup x = some .local := by first | exact .inl rfl | exact .inr rfl | assumption) :
    PS X (.Assign [.Name x pos'] e pos) (tAsg te (gName i)) := by
  intro pins s σ H D I h
  refine wpAny_Assign_Name (thn (he pins s σ H _ I h) fun v s1 ⟨y, H1, I1, r1, q1⟩ => ?_) hs
  exact store_ok I1 hN hi hx r1 (fun s2 I2 => ⟨_, H1, I2, q1⟩) hf
noncomputable def tAug (i : Nat) (te : TE) (ti : TIp) : TS := fun D σ H => ∃ x, σ[i]? = some (some x) ∧ te σ H fun y H1 => ti x y H1 fun z H2 => D.nx (σ.set i (some z)) H2
theorem ps_aug {i : Nat} {x : Str} {e : Expr} {te : TE} {op : Operator} {ti : TIp} {pos' : Pos} (hN : X.N.Nodup) (hi : X.N[i]? = some x) (hx : Loc X.env.scope x) (he : PE X e te) (ho : PIp X op ti) (hf : X.fn x = true ∨ X.env.scope.names.lookup x = some .local := by first | exact .inl rfl | exact .inr rfl | assumption) :
    PS X (.AugAssign (.Name x pos') op e pos) (tAug i te ti) := by
  intro pins s σ H D I h
  obtain ⟨v, e1, h⟩ := h
  obtain ⟨m, hn, hl⟩ := I.loc
  have vis : Vis X.env.scope x := by rcases hx with k | k; exact .inl k; exact .inr (.inl k)
  obtain ⟨u, r, l⟩ := hl i x v hi e1 vis
  refine wpAny_AugAssign_Name ?_
  have go : wpAny (model X.prog X.w) X.A (eval e X.env) (fun w s₂ => wpAny (model X.prog X.w) X.A (inplaceOp op u w) (fun r s₃ => wpAny (model X.prog X.w) X.A (storeName X.env x r) (fun _ => SP X pins D .next) X.xe s₃) X.xe s₂) X.xe s := by
    refine thn (he pins s σ H _ I h) fun w s1 ⟨y, H1, I1, r1, q1⟩ => ?_
    refine thn (ho pins s1 σ H1 v y u w _ I1 r r1 q1) fun z s2 ⟨zv, H2, I2, r2, q2⟩ => ?_
    exact store_ok I2 hN hi hx r2 (fun s3 I3 => ⟨_, H2, I3, q2⟩) hf
  rcases l with ⟨hk, hm⟩ | ⟨hk, c, hc, hcell⟩
  · exact wpAny_loadName_local I.ok.kind hk hn hm go
  · rcases hk with hk | hk
    · exact wpAny_loadName_cell I.ok.kind hk hc hcell go
    · rcases hx with k | k
      · have : X.env.scope.names.lookup x = some .free := hk
        rw [k] at this; cases this
      · have : X.env.scope.names.lookup x = some .free := hk
        rw [k] at this; cases this
end
section
variable {X : Cx} {pos : Pos}
noncomputable def tWhile (c : TT) (tb : TS) : TS := fun D σ H => ∃ W : Nat → St → Hp → Prop, (∃ m, W m σ H) ∧ ∀ m σ H, W m σ H →
  c σ H fun b H1 => if b = true then ∃ N : St → Hp → Prop, (∀ σ' H', N σ' H' → ∃ m', m' < m ∧ W m' σ' H') ∧ tb { D with nx := N, ct := N, bk := D.nx } σ H1 else D.nx σ H1
theorem ps_while {c : Expr} {body : List Stmt} {tc : TT} {tb : TS} (hp : PassesOwn (model X.prog X.w) X.A X.env X.xe) (hc : PT X c tc) (hb : PSs X body tb) : PS X (.While c body [] pos) (tWhile tc tb) := by
  intro pins s σ H D I h
  obtain ⟨W, ⟨m0, w0⟩, turn⟩ := h
  refine wpAny_While (codeAny_whileLoop (fun n s' => ∃ σ' H', Inv X pins σ' H' s' ∧ W n σ' H') ?_ m0 ⟨σ, H, I, w0⟩)
  rintro n s1 ⟨σ1, H1, I1, w1⟩
  refine wpAny_passesOwn hp (thn (hc pins s1 σ1 H1 _ I1 (turn n σ1 H1 w1)) fun b s2 ⟨H2, I2, q2⟩ => ?_)
  cases b with
  | true =>
    obtain ⟨N, hN, q2⟩ := q2
    rw [if_pos rfl]
    refine wpAny_passesOwn hp (thn (hb pins s2 σ1 H2 _ I2 q2) fun f s3 q3 => ?_)
    cases f with
    | next =>
      obtain ⟨σ3, H3, I3, n3⟩ := q3
      obtain ⟨m', hm, w3⟩ := hN σ3 H3 n3
      exact ⟨m', hm, σ3, H3, I3, w3⟩
    | cont =>
      obtain ⟨σ3, H3, I3, n3⟩ := q3
      obtain ⟨m', hm, w3⟩ := hN σ3 H3 n3
      exact ⟨m', hm, σ3, H3, I3, w3⟩
    | brk => exact q3
    | ret v => exact q3
  | false =>
    rw [if_neg Bool.false_ne_true]
    exact wpAny_execs_nil ⟨σ1, H2, I2, q2⟩
end
structure It where
  go : Nat → Hp → Prop
  yld : Nat → Hp → V → Hp → Prop
  stop : Nat → Hp → Prop
noncomputable def FpOk (X : Cx) (pins : List (Addr × Obj)) (H : Hp) (b : Addr) : Prop :=
  H b = none ∧ b ≠ X.env.locals ∧ b ∉ X.fs ∧ (b ∈ X.ex ∨ X.s₀.heap.objs.size ≤ b) ∧ (∀ x c, X.env.cells.lookup x = some c → c ≠ b) ∧ ∀ p ∈ X.pn ++ pins, p.1 ≠ b
theorem Inv.fpOk {X : Cx} {pins : List (Addr × Obj)} {σ : St} {H H' : Hp} {s : Shared} {b : Addr} (I : Inv X pins σ H s) (hb : s.heap.objs.size ≤ b) (hn : H' b = none) : FpOk X pins H' b := by
  refine ⟨hn, Nat.ne_of_gt (Nat.lt_of_lt_of_le I.lt hb), I.nofs hb, .inr (Nat.le_trans I.sz hb), fun x c e z => ?_, fun p hp z => ?_⟩
  · obtain ⟨v, q⟩ := I.cell x c e
    exact absurd (Nat.lt_of_lt_of_le q.lt (by rw [z]; exact hb)) (Nat.lt_irrefl _)
  · exact absurd (Nat.lt_of_lt_of_le (Heap.lt_size (I.pin p hp).1) (by rw [z]; exact hb)) (Nat.lt_irrefl _)
structure Turn (P : Program) (w : World) (K : PySem.W.Frag) (tg : Expr) (J : It) (fp : List Addr) (it : Addr) (tn : Nat → Heap → Prop) : Prop where
  mem : it ∈ fp
  obj : ∀ i h, tn i h → ∀ b ∈ fp, ∃ o, h.get? b = some o ∧ ∀ v, o.data ≠ .cell v
  keep : ∀ i h h', tn i h → (∀ b ∈ fp, ∀ o, h.get? b = some o → h'.get? b = some o) → tn i h'
  item : ∀ (X : Cx), X.prog = P → X.w = w → X.K = K → X.calm = true → ∀ (i : Nat) (pins : List (Addr × Obj)) (s : Shared) (σ : St) (H : Hp) (E : Value → Shared → Prop), Inv X pins σ H s → (∀ b ∈ fp, FpOk X pins H b) → tn i s.heap → J.go i H →
    wpAny (model P w) X.A (pyNext (.ref it)) (fun r s1 => ∃ u, r = some u ∧
      wpAny (model P w) X.A (letOwnedTupleGo tg (.ref it) u) (fun _ s2 => ∃ x H', Inv X pins σ H' s2 ∧ RelV x u ∧ J.yld i H x H' ∧ tn (i + 1) s2.heap ∧ ∀ b ∈ fp, H' b = none) E s1) E s
  done : ∀ (X : Cx), X.prog = P → X.w = w → X.K = K → X.calm = true → ∀ (i : Nat) (pins : List (Addr × Obj)) (s : Shared) (σ : St) (H : Hp) (E : Value → Shared → Prop), Inv X pins σ H s → (∀ b ∈ fp, FpOk X pins H b) → tn i s.heap → J.stop i H →
    wpAny (model P w) X.A (pyNext (.ref it)) (fun r s1 => r = none ∧ Inv X pins σ H s1) E s
  self : ∀ (A : Around) (i : Nat) (s : Shared) (Q : Value → Shared → Prop) (E : Value → Shared → Prop), tn i s.heap → Q (.ref it) s → wpAny (model P w) A (pyIter (.ref it)) Q E s
noncomputable abbrev TI := St → Hp → (It → Hp → Prop) → Prop
noncomputable def PIE (X : Cx) (pins : List (Addr × Obj)) (σ : St) (tg : Expr) (R : It → Hp → Prop) (itv : Value) (s2 : Shared) : Prop :=
  ∃ (it : Addr) (fp : List Addr) (tn : Nat → Heap → Prop) (J : It) (H' : Hp), itv = .ref it ∧ Inv X pins σ H' s2 ∧ Turn X.prog X.w X.K tg J fp it tn ∧ tn 0 s2.heap ∧ (∀ b ∈ fp, FpOk X pins H' b) ∧ R J H'
noncomputable def PI (X : Cx) (tg iter : Expr) (wi : TI) : Prop :=
  ∀ (pins : List (Addr × Obj)) (s : Shared) (σ : St) (H : Hp) (R : It → Hp → Prop), Inv X pins σ H s → wi σ H R →
    wpAny (model X.prog X.w) X.A (eval iter X.env) (fun v s1 => wpAny (model X.prog X.w) X.A (pyIter v) (PIE X pins σ tg R) X.xe s1) X.xe s
theorem go_of {M : Model} {A : Around} {E : Value → Shared → Prop} {s : Shared} {tg : Expr} {it : Addr} {u : Value} {o : Obj} {n : String} {vs : Array Value} {Q : Unit → Shared → Prop} (ho : s.heap.get? it = some o) (hc : o.cls = .type n) (hd : o.data = .fields vs)
    (hn : ["enumerate", "zip", "dict_itemiterator", "dict_reverseitemiterator", "odict_iterator", "itertools.zip_longest", "itertools.pairwise"].contains n = false) (hQ : Q () s) : wpAny M A (letOwnedTupleGo tg (.ref it) u) Q E s := by
  unfold letOwnedTupleGo
  cases tg <;> first
    | exact wpAny_pure hQ
    | (cases u <;> first
        | exact wpAny_pure hQ
        | (refine wpAny_bind (wpAny_load ho ?_)
           rw [hc, hd]
           show wpAny M A (if (["enumerate", "zip", "dict_itemiterator", "dict_reverseitemiterator", "odict_iterator", "itertools.zip_longest", "itertools.pairwise"].contains n && vs[0]? == some (rawInt _)) = true then _ else _) Q E s
           rw [if_neg (by intro h; rw [hn, Bool.false_and] at h; cases h)]
           exact wpAny_pure hQ))
noncomputable def Itr (lo : Int) (n : Nat) : It := ⟨fun i _ => i < n, fun i H x H' => H' = H ∧ x = .int (lo + i), fun i _ => n ≤ i⟩
theorem turn_range {P : Program} {w : World} {K : PySem.W.Frag} {tg : Expr} (it : Addr) (lo : Int) (n : Nat) : Turn P w K tg (Itr lo n) [it] it (fun i h => IsRangeIter h it (lo + (i : Nat) * 1) ((n : Int) - (i : Nat)) 1) where
  mem := by simp
  obj := fun i h st b hb => by
    have e : b = it := by simpa using hb
    subst e
    exact ⟨_, st, fun v z => by
      have z' : Data.fields _ = Data.cell v := z
      cases z'⟩
  keep := fun i h h' st k => k it (by simp) _ st
  item := by
    intro X hP hw hK hc i pins s σ H E I hf st hg
    subst hP hw hK
    obtain ⟨f0, f1, f2, f3, f4, f5⟩ := hf it (by simp)
    have W := Walks.range (prog := X.prog) (w := X.w) (I.ok.hd hc) it lo 1 n
    refine W.item i s _ _ hg st fun v h' tk hv st' kk => ?_
    obtain ⟨t, rfl⟩ := hv
    have I1 : Inv X pins σ H { s with heap := h', toks := tk } := I.turned (fun b o hb e => kk b o (by simpa using hb) e) f0 f1 f3 f4 f5
    refine ⟨_, rfl, go_of (s := { s with heap := h', toks := tk }) (n := "range_iterator") st' rfl rfl (by decide) ⟨.int (lo + i), H, I1, ⟨t, ?_⟩, ⟨rfl, rfl⟩, st', fun b hb => (hf b hb).1⟩⟩
    rw [Int.mul_one]
  done := by
    intro X hP hw hK hc i pins s σ H E I hf st hg
    subst hP hw hK
    obtain ⟨f0, f1, f2, f3, f4, f5⟩ := hf it (by simp)
    exact wpAny_pyNext_range_end (I.ok.hd hc) st (by have : n ≤ i := hg; omega) fun h' eb => ⟨rfl, I.turned (t' := s.toks) (fun b o hb e => eb b o hb e) f0 f1 f3 f4 f5⟩
  self := fun _ _ _ _ _ st h => wpAny_pyIter_rangeiter st h
end L2
namespace L2
open PySem PySem.Spec PyProof.Rows
section
variable {X : Cx} {tg : Expr}
theorem range_it {pins : List (Addr × Obj)} {σ : St} {H : Hp} {s : Shared} {R : It → Hp → Prop} {E : Value → Shared → Prop} {lo hi : Int} {t u v : Tok} {tk : Nat} (I : Inv X pins σ H s) (h1 : -(2 ^ 62) ≤ lo) (h2 : lo < 2 ^ 62) (h3 : -(2 ^ 62) ≤ hi) (h4 : hi < 2 ^ 62)
    (q : R (Itr lo (hi - lo).toNat) H) : wpAny (model X.prog X.w) X.A (pyIter (.ref s.heap.objs.size)) (PIE X pins σ tg R) E { s with heap := s.heap.push { cls := .type "range", data := .fields #[.int lo t, .int hi u, .int 1 v] }, toks := tk } := by
  refine wpAny_pyIter_range (IsRange.new ..) (small_one h1 h2 h3 h4) ?_
  have I1 : Inv X pins σ H { s with heap := s.heap.push { cls := .type "range", data := .fields #[.int lo t, .int hi u, .int 1 v] }, toks := tk } := I.kept fun b o e => Heap.get?_push_of_some _ e
  refine ⟨(s.heap.push { cls := .type "range", data := .fields #[.int lo t, .int hi u, .int 1 v] }).objs.size, [(s.heap.push { cls := .type "range", data := .fields #[.int lo t, .int hi u, .int 1 v] }).objs.size], _, _, H, rfl,
    I1.kept (t' := tk) fun b o e => Heap.get?_push_of_some _ e, turn_range _ lo (hi - lo).toNat, ?_, fun b hb => ?_, q⟩
  · have e1 : lo + ((0 : Nat) : Int) * 1 = lo := by simp
    have e2 : (((hi - lo).toNat : Nat) : Int) - ((0 : Nat) : Int) = Builtin.Range.rangeSize lo hi 1 := by rw [rangeSize_one]; split <;> omega
    show IsRangeIter _ _ (lo + ((0 : Nat) : Int) * 1) ((((hi - lo).toNat : Nat) : Int) - ((0 : Nat) : Int)) 1
    rw [e1, e2]
    exact Heap.get?_push_size _ rfl
  · have e : b = (s.heap.push { cls := .type "range", data := .fields #[.int lo t, .int hi u, .int 1 v] }).objs.size := by simpa using hb
    subst e
    exact I1.fpOk (Nat.le_refl _) (I1.hok.fresh (Nat.le_refl _))
noncomputable def iRng1 (ta : TA) : TI := fun σ H R => ta σ H fun vs H1 => ∃ j : Int, vs = [.int j] ∧ -(2 ^ 62) ≤ j ∧ j < 2 ^ 62 ∧ R (Itr 0 j.toNat) H1
noncomputable def iRng2 (ta : TA) : TI := fun σ H R => ta σ H fun vs H1 => ∃ i j : Int, vs = [.int i, .int j] ∧ (-(2 ^ 62) ≤ i ∧ i < 2 ^ 62 ∧ -(2 ^ 62) ≤ j ∧ j < 2 ^ 62) ∧ R (Itr i (j - i).toNat) H1
theorem pi_range1 {a : Expr} {ta : TA} {p pos : Pos} (hg : Gl X "range") (hm : X.mg "range" = none) (ha : PA X [a] ta) (hs : starEach [a] X.env = [(false, eval a X.env)] := by rfl) : PI X tg (.Call (.Name "range" p) [a] [] pos) (iRng1 ta) := by
  intro pins s σ H R I h
  refine Call_ (ld_blt I hg hm boot_range (PyProof.Rows.callWith_type1 (thn (ha pos pins s σ H _ I h) fun us s1 ⟨vs, H1, I1, r1, q1⟩ => ?_) hs rfl))
  obtain ⟨j, e, q1, q2, q⟩ := q1
  subst e
  cases r1 with
  | cons r rr =>
    cases rr
    obtain ⟨t, rfl⟩ := r
    exact call_range_1 (range_it I1 (by omega) (by omega) q1 q2 (by simpa using q))
theorem pi_range2 {a b : Expr} {ta : TA} {p pos : Pos} (hg : Gl X "range") (hm : X.mg "range" = none) (ha : PA X [a, b] ta) (hs : starEach [a, b] X.env = [(false, eval a X.env), (false, eval b X.env)] := by rfl) (hs2 : starEach [b] X.env = [(false, eval b X.env)] := by rfl) :
    PI X tg (.Call (.Name "range" p) [a, b] [] pos) (iRng2 ta) := by
  intro pins s σ H R I h
  refine Call_ (ld_blt I hg hm boot_range (PyProof.Rows.callWith_type1 (thn (ha pos pins s σ H _ I h) fun us s1 ⟨vs, H1, I1, r1, q1⟩ => ?_) (by rw [hs, hs2]) (by rw [hs2]; rfl)))
  obtain ⟨i, j, e, ⟨q1, q2, q3, q4⟩, q⟩ := q1
  subst e
  cases r1 with
  | cons r rr =>
    cases rr with
    | cons r' rr =>
      cases rr
      obtain ⟨t, rfl⟩ := r
      obtain ⟨t', rfl⟩ := r'
      exact call_range_2 (range_it I1 q1 q2 q3 q4 q)
noncomputable def tFor (wi : TI) (g : TG) (tb : TS) : TS := fun D σ H => wi σ H fun J H1 => ∃ W : Nat → Nat → St → Hp → Prop, (∃ m, W 0 m σ H1) ∧ ∀ i m σ H, W i m σ H →
  (J.stop i H ∧ D.nx σ H) ∨ (J.go i H ∧ ∃ N : St → Hp → Prop, (∀ σ' H', N σ' H' → ∃ m', m' < m ∧ W (i + 1) m' σ' H') ∧ ∀ x H', J.yld i H x H' → g x σ H' fun σ2 H2 => tb { D with nx := N, ct := N, bk := D.nx } σ2 H2)
noncomputable def pinsAt (fp : List Addr) (h : Heap) : List (Addr × Obj) := fp.filterMap fun b => (h.get? b).map fun o => (b, o)
theorem mem_pinsAt {fp : List Addr} {h : Heap} {b : Addr} {o : Obj} (hb : b ∈ fp) (e : h.get? b = some o) : (b, o) ∈ pinsAt fp h := List.mem_filterMap.mpr ⟨b, hb, by rw [e]; rfl⟩
theorem of_pinsAt {fp : List Addr} {h : Heap} {p : Addr × Obj} (hp : p ∈ pinsAt fp h) : p.1 ∈ fp ∧ h.get? p.1 = some p.2 := by
  obtain ⟨b, hb, e⟩ := List.mem_filterMap.mp hp
  cases q : h.get? b with
  | none => rw [q] at e; cases e
  | some o =>
    rw [q] at e
    have e' : (b, o) = p := Option.some.inj e
    subst e'
    exact ⟨hb, q⟩
theorem Inv.pinned {pins : List (Addr × Obj)} {σ : St} {H : Hp} {s : Shared} {fp : List Addr} (I : Inv X pins σ H s) (hf : ∀ b ∈ fp, FpOk X pins H b) (ho : ∀ b ∈ fp, ∃ o, s.heap.get? b = some o ∧ ∀ v, o.data ≠ .cell v) : Inv X (pins ++ pinsAt fp s.heap) σ H s :=
  I.pins_of fun p hp => (List.mem_append.mp hp).elim (fun z => I.pin p (List.mem_append_right _ z)) fun z => by
    obtain ⟨hb, e⟩ := of_pinsAt z
    obtain ⟨f0, f1, f2, _⟩ := hf p.1 hb
    obtain ⟨o, e', d⟩ := ho p.1 hb
    rw [e] at e'; cases e'
    exact ⟨e, f0, f1, f2, d⟩
theorem Inv.unpinned {pins pl : List (Addr × Obj)} {σ : St} {H : Hp} {s : Shared} (I : Inv X (pins ++ pl) σ H s) : Inv X pins σ H s := I.pins_of fun p hp => I.pin p (List.mem_append_right _ (List.mem_append_left _ hp))
theorem ps_for {iter : Expr} {body : List Stmt} {wi : TI} {g : TG} {tb : TS} {pos : Pos} (hp : PassesOwn (model X.prog X.w) X.A X.env X.xe) (hc : X.calm = true) (hi : PI X tg iter wi) (hg : PG X tg g) (hb : PSs X body tb)
    (hs : ∀ x, foldedSetIterable iter X.env x = pure x := by intro _; rfl) : PS X (.For tg iter body [] pos) (tFor wi g tb) := by
  intro pins s σ H D I h
  refine wpAny_For (thn (hi pins s σ H _ I h) fun v s1 h1 => thn h1 fun itv s2 h2 => ?_) hs
  obtain ⟨it, fp, tn, J, H2, e, I2, T, st2, f2, W, ⟨m0, w0⟩, turn⟩ := h2
  subst e
  have stat : ∀ {H' : Hp}, (∀ b ∈ fp, H' b = none) → ∀ b ∈ fp, FpOk X pins H' b := fun hn b hb => ⟨hn b hb, (f2 b hb).2⟩
  refine codeAny_forLoop_any (fun n s' => ∃ i σ' H', Inv X pins σ' H' s' ∧ tn i s'.heap ∧ (∀ b ∈ fp, H' b = none) ∧ W i n σ' H') ?_ m0 ⟨0, σ, H2, I2, st2, fun b hb => (f2 b hb).1, w0⟩
  rintro n s3 ⟨i, σ3, H3, I3, st3, fr3, w3⟩
  rcases turn i n σ3 H3 w3 with ⟨stop, qn⟩ | ⟨go, N, hN, step⟩
  · refine wpAny_passesOwn hp (thn (T.done X rfl rfl rfl hc i pins s3 σ3 H3 X.xe I3 (stat fr3) st3 stop) fun r s4 ⟨hr, I4⟩ => ?_)
    subst hr
    exact wpAny_execs_nil ⟨σ3, H3, I4, qn⟩
  · refine wpAny_passesOwn hp (thn (T.item X rfl rfl rfl hc i pins s3 σ3 H3 X.xe I3 (stat fr3) st3 go) fun r s4 ⟨u, hr, h4⟩ => ?_)
    subst hr
    refine wpAny_passesOwn hp (thn h4 fun _ s5 ⟨x, H5, I5, r5, y5, st5, fr5⟩ => ?_)
    have I5' := I5.pinned (stat fr5) (T.obj _ _ st5)
    refine wpAny_passesOwn hp (thn (hg _ s5 σ3 H5 x u _ I5' r5 (step x H5 y5)) fun _ s6 ⟨σ6, H6, I6, q6⟩ => ?_)
    refine wpAny_passesOwn hp (thn (hb _ s6 σ6 H6 _ I6 q6) fun f s7 q7 => ?_)
    have again : ∀ {σ7 : St} {H7 : Hp}, Inv X (pins ++ pinsAt fp s5.heap) σ7 H7 s7 → N σ7 H7 → ∃ m, m < n ∧ ∃ i σ' H', Inv X pins σ' H' s7 ∧ tn i s7.heap ∧ (∀ b ∈ fp, H' b = none) ∧ W i m σ' H' := fun {σ7 H7} I7 n7 => by
      obtain ⟨m', hm, w7⟩ := hN σ7 H7 n7
      refine ⟨m', hm, i + 1, σ7, H7, I7.unpinned, T.keep _ _ _ st5 fun b hb o e => (I7.pin (b, o) (List.mem_append_right _ (List.mem_append_right _ (mem_pinsAt hb e)))).1, fun b hb => ?_, w7⟩
      obtain ⟨o, e, d⟩ := T.obj _ _ st5 b hb
      exact (I7.pin (b, o) (List.mem_append_right _ (List.mem_append_right _ (mem_pinsAt hb e)))).2.1
    cases f with
    | next => obtain ⟨σ7, H7, I7, n7⟩ := q7; exact again I7 n7
    | cont => obtain ⟨σ7, H7, I7, n7⟩ := q7; exact again I7 n7
    | brk => obtain ⟨σ7, H7, I7, q7⟩ := q7; exact ⟨σ7, H7, I7.unpinned, q7⟩
    | ret v => obtain ⟨x7, σ7, H7, I7, r7, q7⟩ := q7; exact ⟨x7, σ7, H7, I7.unpinned, r7, q7⟩
end
end L2
namespace L2
open PySem PySem.Spec PyProof.Rows
noncomputable abbrev R2 := V → V → Hp → VK → Prop
noncomputable def OpR (X : Cx) (f : Value → Value → Sem Value) (r : R2) : Prop :=
  ∀ (pins : List (Addr × Obj)) (s : Shared) (σ : St) (H : Hp) (x y : V) (v u : Value) (Q : VK), Inv X pins σ H s → RelV x v → RelV y u → r x y H Q →
    wpAny (model X.prog X.w) X.A (f v u) (EP X pins σ Q) X.xe s
noncomputable def UnR (X : Cx) (f : Value → Sem Value) (r : V → Hp → VK → Prop) : Prop :=
  ∀ (pins : List (Addr × Obj)) (s : Shared) (σ : St) (H : Hp) (x : V) (v : Value) (Q : VK), Inv X pins σ H s → RelV x v → r x H Q →
    wpAny (model X.prog X.w) X.A (f v) (EP X pins σ Q) X.xe s
noncomputable def CallR (X : Cx) (f : Value) (r : List V → Hp → VK → Prop) : Prop :=
  ∀ (pins : List (Addr × Obj)) (s : Shared) (σ : St) (H : Hp) (xs : List V) (us : List Value) (Q : VK), Inv X pins σ H s → Vals xs us → r xs H Q →
    wpAny (model X.prog X.w) X.A (call f us) (EP X pins σ Q) X.xe s
noncomputable def TruR (X : Cx) (r : V → Hp → (Bool → Hp → Prop) → Prop) : Prop :=
  ∀ (pins : List (Addr × Obj)) (s : Shared) (σ : St) (H : Hp) (x : V) (v : Value) (Q : Bool → Hp → Prop), Inv X pins σ H s → RelV x v → r x H Q →
    wpAny (model X.prog X.w) X.A (truthy v) (TP X pins σ Q) X.xe s
noncomputable def tOp (r : R2) (ta tb : TE) : TE := fun σ H Q => ta σ H fun x H1 => tb σ H1 fun y H2 => r x y H2 Q
noncomputable def tUn (r : V → Hp → VK → Prop) (ta : TE) : TE := fun σ H Q => ta σ H fun x H1 => r x H1 Q
noncomputable def rI (C : Int → Int → Prop) (g : Int → Int → V) : R2 := fun x y H Q => ∃ i j, x = .int i ∧ y = .int j ∧ C i j ∧ Q (g i j) H
noncomputable def rI0 (g : Int → Int → V) : R2 := fun x y H Q => ∃ i j, x = .int i ∧ y = .int j ∧ Q (g i j) H
noncomputable def rU (g : Int → V) : V → Hp → VK → Prop := fun x H Q => ∃ i, x = .int i ∧ Q (g i) H
section
variable {X : Cx} {a b c : Expr} {ta tb tc : TE} {pos : Pos}
theorem binT (ha : PE X a ta) (hb : PE X b tb) {pins : List (Addr × Obj)} {s : Shared} {σ : St} {H : Hp} {R : V → V → Hp → Prop} (I : Inv X pins σ H s)
    (h : ta σ H fun x H1 => tb σ H1 fun y H2 => R x y H2) {Q : Value → Shared → Prop} {f : Value → Value → Sem Value}
    (hf : ∀ v u s2 x y H2, Inv X pins σ H2 s2 → RelV x v → RelV y u → R x y H2 → wpAny (model X.prog X.w) X.A (f v u) Q X.xe s2) :
    wpAny (model X.prog X.w) X.A (eval a X.env) (fun v s₁ => wpAny (model X.prog X.w) X.A (eval b X.env) (fun u s₂ => wpAny (model X.prog X.w) X.A (f v u) Q X.xe s₂) X.xe s₁) X.xe s := by
  refine thn (ha pins s σ H _ I h) fun v s1 ⟨x, H1, I1, r1, q1⟩ => ?_
  refine thn (hb pins s1 σ H1 _ I1 q1) fun u s2 ⟨y, H2, I2, r2, q2⟩ => ?_
  exact hf v u s2 x y H2 I2 r1 r2 q2
theorem pe_op {op : Operator} {r : R2} (ho : OpR X (binaryOp op) r) (ha : PE X a ta) (hb : PE X b tb) : PE X (.BinOp a op b pos) (tOp r ta tb) := by
  intro pins s σ H Q I h
  exact wpAny_BinOp (binT ha hb I h fun v u s2 x y H2 I2 rx ry q => ho pins s2 σ H2 x y v u Q I2 rx ry q)
theorem pe_un {op : UnaryOp} {r : V → Hp → VK → Prop} (ho : UnR X (unaryOp op) r) (ha : PE X a ta) : PE X (.UnaryOp op a pos) (tUn r ta) := by
  intro pins s σ H Q I h
  exact UnaryOp_ (thn (ha pins s σ H _ I h) fun v s1 ⟨x, H1, I1, r1, q1⟩ => ho pins s1 σ H1 x v Q I1 r1 q1)
theorem opI {f : Value → Value → Sem Value} {C : Int → Int → Prop} {g : Int → Int → Int}
    (rule : ∀ (i j : Int) (t u : Tok) (s : Shared) (Q : Value → Shared → Prop) (E : Value → Shared → Prop), C i j → Q (.int (g i j) s.toks) { s with toks := s.toks + 1 } → wpAny (model X.prog X.w) X.A (f (.int i t) (.int j u)) Q E s) :
    OpR X f (rI C fun i j => .int (g i j)) := by
  intro pins s σ H x y v u Q I rx ry h
  obtain ⟨i, j, rfl, rfl, hc, q⟩ := h
  obtain ⟨t, rfl⟩ := rx
  obtain ⟨t', rfl⟩ := ry
  exact rule i j t t' s _ _ hc ⟨.int (g i j), H, I.tok _, ⟨_, rfl⟩, q⟩
theorem opI0 {f : Value → Value → Sem Value} {g : Int → Int → Int}
    (rule : ∀ (i j : Int) (t u : Tok) (s : Shared) (Q : Value → Shared → Prop) (E : Value → Shared → Prop), Q (.int (g i j) s.toks) { s with toks := s.toks + 1 } → wpAny (model X.prog X.w) X.A (f (.int i t) (.int j u)) Q E s) :
    OpR X f (rI0 fun i j => .int (g i j)) := by
  intro pins s σ H x y v u Q I rx ry h
  obtain ⟨i, j, rfl, rfl, q⟩ := h
  obtain ⟨t, rfl⟩ := rx
  obtain ⟨t', rfl⟩ := ry
  exact rule i j t t' s _ _ ⟨.int (g i j), H, I.tok _, ⟨_, rfl⟩, q⟩
theorem opB0 {f : Value → Value → Sem Value} {g : Int → Int → Bool}
    (rule : ∀ (i j : Int) (t u : Tok) (s : Shared) (Q : Value → Shared → Prop) (E : Value → Shared → Prop), Q (.bool (g i j)) s → wpAny (model X.prog X.w) X.A (f (.int i t) (.int j u)) Q E s) :
    OpR X f (rI0 fun i j => .bl (g i j)) := by
  intro pins s σ H x y v u Q I rx ry h
  obtain ⟨i, j, rfl, rfl, q⟩ := h
  obtain ⟨t, rfl⟩ := rx
  obtain ⟨t', rfl⟩ := ry
  exact rule i j t t' s _ _ ⟨.bl (g i j), H, I, rfl, q⟩
noncomputable def CPow (i j : Int) : Prop := 0 ≤ j ∧ j ≤ 1000000 ∧ i.natAbs < 2 ^ 64
noncomputable def CMul (i j : Int) : Prop := (-(2 ^ 64) < i ∧ i < 2 ^ 64) ∨ (-(2 ^ 64) < j ∧ j < 2 ^ 64)
theorem CMul.ok {i j : Int} (h : CMul i j) : IntMulOk i j := by
  rcases h with ⟨h1, h2⟩ | ⟨h1, h2⟩
  · exact .of_left (intBits_le_64 h1 h2)
  · exact .of_right (intBits_le_64 h1 h2)
theorem op_add : OpR X (binaryOp .Add) (rI0 fun i j => .int (i + j)) := opI0 fun _ _ _ _ _ _ _ q => add_int q
theorem op_sub : OpR X (binaryOp .Sub) (rI0 fun i j => .int (i - j)) := opI0 fun _ _ _ _ _ _ _ q => sub_int q
theorem op_mul : OpR X (binaryOp .Mult) (rI CMul fun i j => .int (i * j)) := opI fun _ _ _ _ _ _ _ hc q => mul_int q hc.ok
theorem op_mod : OpR X (binaryOp .Mod) (rI (fun _ j => 0 < j) fun i j => .int (i % j)) := opI fun i j _ _ _ _ _ hc q => by
  have h1 : (0 : Int) < j := hc
  exact mod_int' (by omega) (by rw [Int.fmod_eq_emod_of_nonneg i (by omega)]; exact q)
theorem op_pow : OpR X (binaryOp .Pow) (rI CPow fun i j => .int (i ^ j.toNat)) := opI fun _ _ _ _ _ _ _ hc q => pow_int_small hc.1 hc.2.1 hc.2.2 q
theorem iop_add : OpR X (inplaceOp .Add) (rI0 fun i j => .int (i + j)) := opI0 fun _ _ _ _ _ _ _ q => iadd_int q
theorem unI {f : Value → Sem Value} {g : Int → Int}
    (rule : ∀ (i : Int) (t : Tok) (s : Shared) (Q : Value → Shared → Prop) (E : Value → Shared → Prop), Q (.int (g i) s.toks) { s with toks := s.toks + 1 } → wpAny (model X.prog X.w) X.A (f (.int i t)) Q E s) :
    UnR X f (rU fun i => .int (g i)) := by
  intro pins s σ H x v Q I rx h
  obtain ⟨i, rfl, q⟩ := h
  obtain ⟨t, rfl⟩ := rx
  exact rule i t s _ _ ⟨.int (g i), H, I.tok _, ⟨_, rfl⟩, q⟩
theorem un_neg : UnR X (unaryOp .USub) (rU fun i => .int (-i)) := unI fun _ _ _ _ _ q => neg_int q
end
noncomputable def scal : V → V → Bool
  | .non, .non => true | .non, .int _ => true | .int _, .non => true | .non, .bl _ => true | .bl _, .non => true | .non, .str _ => true | .str _, .non => true
  | .int _, .int _ => true | .bl _, .bl _ => true | .str _, .str _ => true | .byt _, .byt _ => true
  | .int _, .str _ => true | .str _, .int _ => true | .bl _, .str _ => true | .str _, .bl _ => true
  | _, _ => false
noncomputable def rEq : R2 := fun x y H Q => scal x y = true ∧ Q (.bl (decide (x = y))) H
noncomputable def rNe : R2 := fun x y H Q => scal x y = true ∧ Q (.bl (!decide (x = y))) H
theorem dec_int {i j : Int} : decide (V.int i = V.int j) = (i == j) := by
  rw [Bool.eq_iff_iff]
  simp
theorem dec_bl {i j : Bool} : decide (V.bl i = V.bl j) = (i == j) := by
  rw [Bool.eq_iff_iff]
  simp
theorem dec_str {i j : Str} : decide (V.str i = V.str j) = (i == j) := by
  rw [Bool.eq_iff_iff]
  simp
theorem dec_byt {i j : Array UInt8} : decide (V.byt i = V.byt j) = (i.toList == j.toList) := by
  rw [Bool.eq_iff_iff]
  cases i
  cases j
  simp
section
variable {X : Cx} {a b c : Expr} {ta tb tc : TE} {pos : Pos}
theorem fin_bl {pins : List (Addr × Obj)} {σ : St} {H : Hp} {s : Shared} {Q : VK} {k k' : Bool} (I : Inv X pins σ H s) (q : Q (.bl k) H) (e : k = k') : EP X pins σ Q (.bool k') s := by
  subst e
  exact ⟨.bl k, H, I, rfl, q⟩
theorem op_eq : OpR X (compareOp .Eq) rEq := by
  intro pins s σ H x y v u Q I rx ry h
  obtain ⟨hs, q⟩ := h
  cases x with
  | non =>
    cases rx
    cases y with
    | non => cases ry; exact PySem.EqNone.eq_none_none (fin_bl I q (by simp))
    | bl j => cases ry; exact PySem.EqNone.eq_none_bool (fin_bl I q (by simp))
    | int j => obtain ⟨t', rfl⟩ := ry; exact PySem.EqNone.eq_none_int (fin_bl I q (by simp))
    | str j => obtain ⟨t', rfl⟩ := ry; exact PySem.EqNone.eq_none_str (fin_bl I q (by simp))
    | _ => exact absurd (show false = true from hs) Bool.false_ne_true
  | bl i =>
    cases rx
    cases y with
    | non => cases ry; exact PySem.EqNone.eq_bool_none (fin_bl I q (by simp))
    | bl j => cases ry; exact eq_bool (fin_bl I q dec_bl)
    | str j => obtain ⟨t', rfl⟩ := ry; exact PySem.EqMixed.eq_bool_str (fin_bl I q (by simp))
    | _ => exact absurd (show false = true from hs) Bool.false_ne_true
  | int i =>
    obtain ⟨t, rfl⟩ := rx
    cases y with
    | non => cases ry; exact PySem.EqNone.eq_int_none (fin_bl I q (by simp))
    | int j => obtain ⟨t', rfl⟩ := ry; exact eq_int (fin_bl I q dec_int)
    | str j => obtain ⟨t', rfl⟩ := ry; exact PySem.EqMixed.eq_int_str (fin_bl I q (by simp))
    | _ => exact absurd (show false = true from hs) Bool.false_ne_true
  | str i =>
    obtain ⟨t, rfl⟩ := rx
    cases y with
    | non => cases ry; exact PySem.EqNone.eq_str_none (fin_bl I q (by simp))
    | bl j => cases ry; exact PySem.EqMixed.eq_str_bool (fin_bl I q (by simp))
    | int j => obtain ⟨t', rfl⟩ := ry; exact PySem.EqMixed.eq_str_int (fin_bl I q (by simp))
    | str j => obtain ⟨t', rfl⟩ := ry; exact eq_str (fin_bl I q dec_str)
    | _ => exact absurd (show false = true from hs) Bool.false_ne_true
  | byt i =>
    obtain ⟨t, rfl⟩ := rx
    cases y with
    | byt j => obtain ⟨t', rfl⟩ := ry; exact PySem.W.eq_bytes (fin_bl I q dec_byt)
    | _ => exact absurd (show false = true from hs) Bool.false_ne_true
  | _ => cases y <;> exact absurd (show false = true from hs) Bool.false_ne_true
theorem op_ne : OpR X (compareOp .NotEq) rNe := by
  intro pins s σ H x y v u Q I rx ry h
  obtain ⟨hs, q⟩ := h
  cases x with
  | non =>
    cases rx
    cases y with
    | non => cases ry; exact PySem.EqNone.ne_none_none (fin_bl I q (by simp))
    | bl j => cases ry; exact PySem.EqNone.ne_none_bool (fin_bl I q (by simp))
    | int j => obtain ⟨t', rfl⟩ := ry; exact PySem.EqNone.ne_none_int (fin_bl I q (by simp))
    | str j => obtain ⟨t', rfl⟩ := ry; exact PySem.EqNone.ne_none_str (fin_bl I q (by simp))
    | _ => exact absurd (show false = true from hs) Bool.false_ne_true
  | bl i =>
    cases rx
    cases y with
    | non => cases ry; exact PySem.EqNone.ne_bool_none (fin_bl I q (by simp))
    | bl j => cases ry; exact ne_bool (fin_bl I q (congrArg not dec_bl))
    | str j => obtain ⟨t', rfl⟩ := ry; exact PySem.EqMixed.ne_bool_str (fin_bl I q (by simp))
    | _ => exact absurd (show false = true from hs) Bool.false_ne_true
  | int i =>
    obtain ⟨t, rfl⟩ := rx
    cases y with
    | non => cases ry; exact PySem.EqNone.ne_int_none (fin_bl I q (by simp))
    | int j => obtain ⟨t', rfl⟩ := ry; exact ne_int (fin_bl I q (congrArg not dec_int))
    | str j => obtain ⟨t', rfl⟩ := ry; exact PySem.EqMixed.ne_int_str (fin_bl I q (by simp))
    | _ => exact absurd (show false = true from hs) Bool.false_ne_true
  | str i =>
    obtain ⟨t, rfl⟩ := rx
    cases y with
    | non => cases ry; exact PySem.EqNone.ne_str_none (fin_bl I q (by simp))
    | bl j => cases ry; exact PySem.EqMixed.ne_str_bool (fin_bl I q (by simp))
    | int j => obtain ⟨t', rfl⟩ := ry; exact PySem.EqMixed.ne_str_int (fin_bl I q (by simp))
    | str j => obtain ⟨t', rfl⟩ := ry; exact ne_str (fin_bl I q (congrArg not dec_str))
    | _ => exact absurd (show false = true from hs) Bool.false_ne_true
  | byt i =>
    obtain ⟨t, rfl⟩ := rx
    cases y with
    | byt j => obtain ⟨t', rfl⟩ := ry; exact PySem.W.ne_bytes (fin_bl I q (congrArg not dec_byt))
    | _ => exact absurd (show false = true from hs) Bool.false_ne_true
  | _ => cases y <;> exact absurd (show false = true from hs) Bool.false_ne_true
theorem op_lt : OpR X (compareOp .Lt) (rI0 fun i j => .bl (decide (i < j))) := opB0 fun _ _ _ _ _ _ _ q => lt_int q
theorem op_le : OpR X (compareOp .LtE) (rI0 fun i j => .bl (decide (i ≤ j))) := opB0 fun _ _ _ _ _ _ _ q => le_int q
theorem op_gt : OpR X (compareOp .Gt) (rI0 fun i j => .bl (decide (j < i))) := opB0 fun _ _ _ _ _ _ _ q => gt_int q
theorem op_in_str : OpR X (compareOp .In) (fun x y H Q => ∃ i j, x = .str i ∧ y = .str j ∧ Q (.bl (!(Builtin.Str.occurrences j i 0 j.length 1).isEmpty)) H) := by
  intro pins s σ H x y v u Q I rx ry h
  obtain ⟨i, j, rfl, rfl, q⟩ := h
  obtain ⟨t, rfl⟩ := rx
  obtain ⟨t', rfl⟩ := ry
  exact in_str (fin_bl I q rfl)
theorem op_isN : OpR X (compareOp .Is) (fun x y H Q => y = .non ∧ Q (.bl (decide (x = .non))) H) := by
  intro pins s σ H x y v u Q I rx ry h
  obtain ⟨rfl, q⟩ := h
  cases ry
  refine is_none_gen (fin_bl I q ?_)
  cases x <;> first
    | (cases rx; rfl)
    | (obtain ⟨t, rfl⟩ := rx; rfl)
theorem op_notN : OpR X (compareOp .IsNot) (fun x y H Q => y = .non ∧ Q (.bl (!decide (x = .non))) H) := by
  intro pins s σ H x y v u Q I rx ry h
  obtain ⟨rfl, q⟩ := h
  cases ry
  refine isnot_none_gen (fin_bl I q ?_)
  cases x <;> first
    | (cases rx; rfl)
    | (obtain ⟨t, rfl⟩ := rx; rfl)
theorem nomark (b : Expr) {op : CmpOp} (h : op ≠ .In := by decide) (h2 : op ≠ .NotIn := by decide) : behindInMarks op b = false := by
  have e1 : (op == CmpOp.In) = false := by cases op <;> first | rfl | exact absurd rfl h
  have e2 : (op == CmpOp.NotIn) = false := by cases op <;> first | rfl | exact absurd rfl h2
  cases b <;> simp [behindInMarks, e1, e2]
theorem pe_cmpR {op : CmpOp} {r : R2} (ho : OpR X (compareOp op) r) (ha : PE X a ta) (hb : PE X b tb) (hm : behindInMarks op b = false) : PE X (.Compare a [op] [b] pos) (tOp r ta tb) := by
  intro pins s σ H Q I h
  exact wpAny_Compare1 (binT ha hb I h fun v u s2 x y H2 I2 rx ry q => ho pins s2 σ H2 x y v u Q I2 rx ry q) hm
noncomputable def tTest (t : TE) : TT := fun σ H Q => t σ H fun x H' => ∃ k, x = .bl k ∧ Q k H'
theorem pt_cmpR {op : CmpOp} {r : R2} (ho : OpR X (compareOp op) r) (ha : PE X a ta) (hb : PE X b tb) (hm : behindInMarks op b = false) : PT X (.Compare a [op] [b] pos) (tTest (tOp r ta tb)) := by
  intro pins s σ H Q I h
  refine wpAny_isTrue_Compare1 (thn (ha pins s σ H _ I h) fun v s1 ⟨x, H1, I1, r1, q1⟩ => thn (hb pins s1 σ H1 _ I1 q1) fun u s2 ⟨y, H2, I2, r2, q2⟩ =>
    thn (ho pins s2 σ H2 x y v u _ I2 r1 r2 q2) fun c s3 ⟨z, H3, I3, r3, k, e, q3⟩ => ?_) hm
  subst e
  cases r3
  exact wpAny_truthy_bool ⟨H3, I3, q3⟩
noncomputable def tChain (r r' : R2) (ta tb tc : TE) : TE := fun σ H Q => ta σ H fun x H1 => tb σ H1 fun y H2 => r x y H2 fun z H3 => ∃ k, z = .bl k ∧
  (if k = true then tc σ H3 fun w' H4 => r' y w' H4 Q else Q (.bl false) H3)
theorem pe_chain {op op' : CmpOp} {r r' : R2} (ho : OpR X (compareOp op) r) (ho' : OpR X (compareOp op') r') (ha : PE X a ta) (hb : PE X b tb) (hc : PE X c tc)
    (hm : lastMarks [op, op'] [b, c] = false := by with_unfolding_all rfl) : PE X (.Compare a [op, op'] [b, c] pos) (tChain r r' ta tb tc) := by
  intro pins s σ H Q I h
  refine Compare_chain (thn (ha pins s σ H _ I h) fun v s1 ⟨x, H1, I1, r1, q1⟩ => chain_link (thn (hb pins s1 σ H1 _ I1 q1) fun u s2 ⟨y, H2, I2, r2, q2⟩ =>
    thn (ho pins s2 σ H2 x y v u _ I2 r1 r2 q2) fun d s3 ⟨z, H3, I3, r3, k, e, q3⟩ => ?_)) hm
  subst e
  cases r3
  refine wpAny_truthy_bool ?_
  cases k with
  | false => exact ite_ff ⟨.bl false, H3, I3, rfl, q3⟩
  | true => exact ite_tt (chain_last (thn (hc pins s3 σ H3 _ I3 q3) fun w' s4 ⟨z', H4, I4, r4, q4⟩ => ho' pins s4 σ H4 y z' u w' Q I4 r2 r4 q4))
noncomputable def TruV (K : PySem.W.Frag) (x : V) (H : Hp) (k : Bool) : Prop :=
  match x with
  | .non => k = false
  | .bl b => k = b
  | .int i => k = (i != 0)
  | .str y => y.length ≤ sizeLine ∧ k = ((y.length : Int) != 0)
  | .byt y => y.size ≤ sizeLine ∧ k = ((y.size : Int) != 0)
  | .ref p => (∃ xs, SqL K H p xs ∧ k = !xs.isEmpty) ∨ (∃ xs, SqT K H p xs ∧ k = !xs.isEmpty) ∨ ∃ kvs, H p = some (.dK kvs) ∧ k = !kvs.isEmpty
  | _ => False
theorem isEmpty_kv {κ : Type} {kvs : List (κ × V)} {vs : List (κ × Value)} (r : KV kvs vs) : (!vs.isEmpty) = !kvs.isEmpty := by
  cases r <;> rfl
theorem isEmpty_of {xs : List V} {its : List Value} (r : Vals xs its) : (!its.toArray.isEmpty) = !xs.isEmpty := by
  cases r <;> simp
theorem line63 : (sizeLine : Nat) < 2 ^ 63 := by rw [sizeLine_eq]; decide
theorem tru_ok : TruR X (fun x H Q => ∃ k, TruV X.K x H k ∧ Q k H) := by
  intro pins s σ H x v Q I rx h
  obtain ⟨k, e, q⟩ := h
  have hl := line63
  have hs : sizeLine = 16777216 := sizeLine_eq
  cases x with
  | non =>
    cases rx
    have e' : k = false := e
    subst e'
    exact truthy_none ⟨H, I, q⟩
  | bl b =>
    cases rx
    have e' : k = b := e
    subst e'
    exact wpAny_truthy_bool ⟨H, I, q⟩
  | int i =>
    obtain ⟨t, rfl⟩ := rx
    have e' : k = (i != 0) := e
    subst e'
    exact PySem.P.truthy_int ⟨H, I, q⟩
  | str y =>
    obtain ⟨t, rfl⟩ := rx
    obtain ⟨hy, e'⟩ : y.length ≤ sizeLine ∧ k = ((y.length : Int) != 0) := e
    subst e'
    exact PySem.P.truthy_str (by omega) ⟨H, I.tok _, q⟩
  | byt y =>
    obtain ⟨t, rfl⟩ := rx
    obtain ⟨hy, e'⟩ : y.size ≤ sizeLine ∧ k = ((y.size : Int) != 0) := e
    subst e'
    exact PySem.W.truthy_bytes (by omega) ⟨H, I.tok _, q⟩
  | ref p =>
    cases rx
    have e' : (∃ xs, SqL X.K H p xs ∧ k = !xs.isEmpty) ∨ (∃ xs, SqT X.K H p xs ∧ k = !xs.isEmpty) ∨ ∃ kvs, H p = some (.dK kvs) ∧ k = !kvs.isEmpty := e
    rcases e' with ⟨xs, hx, e'⟩ | ⟨xs, hx, e'⟩ | ⟨kvs, hx, e'⟩
    · subst e'
      obtain ⟨its, r, pl, hz⟩ := I.list hx
      have hlen := r.length
      exact wpAny_truthy_list pl.isList (by simp only [List.size_toArray]; omega) ⟨H, I.tok _, by rw [isEmpty_of r]; exact q⟩
    · subst e'
      obtain ⟨its, r, pl, hz⟩ := I.tuple hx
      have hlen := r.length
      exact truthy_tuple pl (by simp only [List.size_toArray]; omega) ⟨H, I.tok _, by rw [isEmpty_of r]; exact q⟩
    · subst e'
      obtain ⟨hz, hS, vs, r, m⟩ : kvs.length ≤ sizeLine ∧ (p == sysModules) = false ∧ ∃ vs, KV kvs vs ∧ s.heap.DictOf (mixKind X.prog X.w) p vs := I.hok p _ hx
      have hlen : kvs.length = vs.length := Paired.length r
      exact wpAny_truthy_dict hS m (by omega) ⟨H, I.tok _, by rw [isEmpty_kv r]; exact q⟩
  | _ => exact (show False from e).elim
theorem op_add_str : OpR X (binaryOp .Add) (fun x y H Q => ∃ i j, x = .str i ∧ y = .str j ∧ i.length + j.length ≤ sizeLine ∧ Q (.str (i ++ j)) H) := by
  intro pins s σ H x y v u Q I rx ry h
  obtain ⟨i, j, rfl, rfl, hz, q⟩ := h
  obtain ⟨t, rfl⟩ := rx
  obtain ⟨t', rfl⟩ := ry
  exact add_str (fun t' tk => ⟨.str (i ++ j), H, I.tok _, ⟨_, rfl⟩, q⟩) hz
theorem vals1 {x : V} {us : List Value} (r : Vals [x] us) : ∃ u, us = [u] ∧ RelV x u := by
  cases r with
  | cons r1 r2 => cases r2; exact ⟨_, rfl, r1⟩
theorem vals2 {x y : V} {us : List Value} (r : Vals [x, y] us) : ∃ u w', us = [u, w'] ∧ RelV x u ∧ RelV y w' := by
  cases r with
  | cons r1 r2 =>
    cases r2 with
    | cons r3 r4 => cases r4; exact ⟨_, _, rfl, r1, r3⟩
theorem call_min2 (hc : X.calm = true) : CallR X (.builtin "min") (fun xs H Q => ∃ i j, xs = [.int i, .int j] ∧ Q (.int (if j < i then j else i)) H) := by
  intro pins s σ H xs us Q I r h
  obtain ⟨i, j, rfl, q⟩ := h
  obtain ⟨u, w', rfl, ⟨t, rfl⟩, ⟨t', rfl⟩⟩ := vals2 r
  refine min_two_ints (I.ok.hd hc) fun h' tk k => ⟨_, H, I.kept k, ?_, q⟩
  by_cases hj : j < i
  · rw [if_pos hj, if_pos hj]; exact ⟨_, rfl⟩
  · rw [if_neg hj, if_neg hj]; exact ⟨_, rfl⟩
theorem call_str_int : CallR X (.type "str") (fun xs H Q => ∃ i, xs = [.int i] ∧ i.natAbs.log2 < 1920 ∧ Q (.str (toString i)) H) := by
  intro pins s σ H xs us Q I r h
  obtain ⟨i, rfl, hz, q⟩ := h
  obtain ⟨u, rfl, t, rfl⟩ := vals1 r
  exact PySem.P.str_of_int hz ⟨.str _, H, I.tok _, ⟨_, rfl⟩, q⟩
noncomputable def LenV (K : PySem.W.Frag) (x : V) (H : Hp) (n : Nat) : Prop :=
  match x with
  | .str y => y.length ≤ sizeLine ∧ n = y.length
  | .byt y => y.size ≤ sizeLine ∧ n = y.size
  | .ref p => (∃ xs, SqL K H p xs ∧ n = xs.length) ∨ ∃ xs, SqT K H p xs ∧ n = xs.length
  | _ => False
theorem call_len : CallR X (.builtin "len") (fun xs H Q => ∃ x n, xs = [x] ∧ LenV X.K x H n ∧ Q (.int n) H) := by
  intro pins s σ H xs us Q I r h
  obtain ⟨x, n, rfl, e, q⟩ := h
  obtain ⟨u, rfl, rx⟩ := vals1 r
  have hl := line63
  have hs : sizeLine = 16777216 := sizeLine_eq
  cases x with
  | str y =>
    obtain ⟨t, rfl⟩ := rx
    obtain ⟨hy, e'⟩ : y.length ≤ sizeLine ∧ n = y.length := e
    subst e'
    exact len_str (by omega) ⟨.int _, H, I.tok _, ⟨_, rfl⟩, q⟩
  | byt y =>
    obtain ⟨t, rfl⟩ := rx
    obtain ⟨hy, e'⟩ : y.size ≤ sizeLine ∧ n = y.size := e
    subst e'
    exact PySem.W.len_bytes (by omega) ⟨.int _, H, I.tok _, ⟨_, rfl⟩, q⟩
  | ref p =>
    cases rx
    have e' : (∃ xs, SqL X.K H p xs ∧ n = xs.length) ∨ ∃ xs, SqT X.K H p xs ∧ n = xs.length := e
    rcases e' with ⟨xs, hx, e'⟩ | ⟨xs, hx, e'⟩
    · subst e'
      obtain ⟨its, r', pl, hz⟩ := I.list hx
      have hlen := r'.length
      exact Calls.call_len_list pl.isList (by simp only [List.size_toArray]; omega) ⟨.int xs.length, H, I.tok _, ⟨_, by simp only [List.size_toArray]; rw [hlen]⟩, q⟩
    · subst e'
      obtain ⟨its, r', pl, hz⟩ := I.tuple hx
      have hlen := r'.length
      exact len_tuple pl (by simp only [List.size_toArray]; omega) ⟨.int xs.length, H, I.tok _, ⟨_, by simp only [List.size_toArray]; rw [hlen]⟩, q⟩
  | _ => exact (show False from e).elim
end
end L2
namespace L2
open PySem PySem.Spec PyProof.Rows
structure ObjM (h : Heap) (x dx C : Addr) (mA : Str → Option Value) : Prop where
  obj : h.get? x = some (PySem.W.instObj C dx)
  ns : h.Ns1 dx mA
  ne : dx ≠ x
theorem lookIn_ns {h : Heap} {dx : Addr} {mA : Str → Option Value} (n : h.Ns1 dx mA) : ∃ od, h.get? dx = some od ∧ ∀ name, PySem.W.lookIn name od = some (mA name) := by
  obtain ⟨o, es, ep, ho, hd, hk, _, hm⟩ := n
  refine ⟨o, ho, fun name => ?_⟩
  have e := hm name
  unfold nsFind findBy at e
  rw [← Array.find?_toList] at e
  unfold PySem.W.lookIn
  rw [hd]
  dsimp only
  split
  · rename_i y q
    rw [q] at e
    exact congrArg some e
  · rename_i q
    rw [q] at e
    have a : es.toList.any (·.refKey) = false := by
      rw [List.any_eq_false]
      intro y hy
      obtain ⟨z, t, hkey⟩ := hk y (Array.mem_toList_iff.mp hy)
      simp [DictEntry.refKey, hkey]
    have a' : ¬ es.toList.any (·.refKey) = true := by rw [a]; exact Bool.false_ne_true
    rw [if_neg a']
    exact congrArg some e
theorem ObjM.look {h : Heap} {x dx C : Addr} {mA : Str → Option Value} (I : ObjM h x dx C mA) : ∃ od, PySem.W.InstAt h x (PySem.W.instObj C dx) C (some od) ∧ ∀ name, PySem.W.lookIn name od = some (mA name) :=
  let ⟨od, ho, hl⟩ := lookIn_ns I.ns
  ⟨od, ⟨I.obj, rfl, rfl, ho⟩, hl⟩
section
variable {prog : Program} {w : World} {A : Around} {E : Value → Shared → Prop} {s : Shared} {K : PySem.W.Frag} {x dx C f : Addr} {mA : Str → Option Value} {name : Str} {v : Value}
end
theorem RelO.some_of {v : V} {o : Option Value} (r : RelO (some v) o) : ∃ u, o = some u ∧ RelV v u := by
  cases o with
  | none => exact (show False from r).elim
  | some u => exact ⟨u, rfl, r⟩
section
variable {P : Program} {w : World} {H H' : Hp} {h h' : Heap} {a C dx : Addr} {fs fs' : List (Str × V)}
theorem ins_get (hok : HOk P w H h) (e : H a = some (.ins C dx fs)) : ∃ mA, ObjM h a dx C mA ∧ (∀ f, RelO (fs.lookup f) (mA f)) ∧ PySem.Within mA (fs.map (·.1)) ∧ fs.length ≤ 1000 ∧ H dx = some (.own a) := by
  obtain ⟨d, z, ne, ob, mA, n, r, q⟩ := (show ObjOk P w H h a (.ins C dx fs) from hok a _ e)
  exact ⟨mA, ⟨ob, n, ne⟩, r, q, z, d⟩
end
structure Cls (K : PySem.W.Frag) (C : Addr) : Prop where
  pg : PySem.W.plainGet K C Str.empty = true
  hd : PySem.W.hasDictIn K C = true
  po : PySem.W.plainOver K C = true
  sa : PySem.W.findIn K (.ref C) "__setattr__" = some (some (.builtin "object.__setattr__"))
theorem Cls.get {K : PySem.W.Frag} {C : Addr} (c : Cls K C) (f : Str) : PySem.W.plainGet K C f = true := c.pg
structure Con (K : PySem.W.Frag) (C : Addr) (f : Str) (v : V) (u : Value) : Prop where
  at_ : PySem.W.findIn K (.ref C) f = some (some u)
  rel : RelV v u
  get : PySem.W.specialIn K u "__get__" = some none
  cp : PySem.W.copiedNames.contains f = false
structure Meth (K : PySem.W.Frag) (C : Addr) (m : Str) (f : Addr) : Prop where
  at_ : PySem.W.findIn K (.ref C) m = some (some (.ref f))
  fn : PySem.W.isFn K (.ref f) = true
  kp : PySem.W.keepIn K (.ref f) = true
section
variable {X : Cx} {pins : List (Addr × Obj)} {σ : St} {H : Hp} {s : Shared} {a C dx : Addr} {fs : List (Str × V)} {f : Str} {v : V} {A : Around} {E : Value → Shared → Prop}
end
section
variable {X : Cx} {o e value : Expr} {f : Str} {pos pos' tpos : Pos} {ta tv : TE}
end
section
variable {X : Cx} {pins : List (Addr × Obj)} {σ : St} {H : Hp} {s : Shared} {A : Around} {E : Value → Shared → Prop} {Q : Value → Shared → Prop} {c : Value} {b : Bool}
inductive TyOf (K : PySem.W.Frag) (H : Hp) : V → Value → Prop where
  | non : TyOf K H .non (.type "NoneType")
  | bl (x : Bool) : TyOf K H (.bl x) (.type "bool")
  | int (i : Int) : TyOf K H (.int i) (.type "int")
  | str (x : Str) : TyOf K H (.str x) (.type "str")
  | flt (x : UInt64) : TyOf K H (.flt x) (.type "float")
  | lst {a : Addr} {xs : List V} (e : H a = some (.lst xs)) : TyOf K H (.ref a) (.type "list")
  | frz {a : Addr} {o : Obj} {xs : List V} (e : H a = some (.frz o (.lst xs))) : TyOf K H (.ref a) (.type "list")
  | tup {a : Addr} {xs : List V} (e : H a = some (.tup xs)) : TyOf K H (.ref a) (.type "tuple")
  | dK {a : Addr} {kvs : List (Key × V)} (e : H a = some (.dK kvs)) : TyOf K H (.ref a) (.type "dict")
  | dT {a : Addr} {kvs : List (List Key × V)} (e : H a = some (.dT kvs)) : TyOf K H (.ref a) (.type "dict")
  | ins {a C dx : Addr} {fs : List (Str × V)} (e : H a = some (.ins C dx fs)) (cl : Cls K C) (ha : PySem.W.findIn K (.ref C) "__class__" = some (some (.builtin "object.__class__")))
      (hn : PySem.W.specialIn K (.builtin "object.__class__") "__get__" = some (some (.builtin "getset_descriptor.__get__"))) (htk : PySem.W.takesIn K (.builtin "object.__class__") = some true)
      (hm : PySem.W.mroIn K C (.type "object") = some true) : TyOf K H (.ref a) (.ref C)
theorem isinst_ok {x : V} {u t : Value} (I : Inv X pins σ H s) (rx : RelV x u) (ty : TyOf X.K H x t) (e : PySem.W.kitOne X.K t c = some b) (h : ∀ tk, Q (.bool b) { s with toks := tk }) :
    wpAny (model X.prog X.w) A (call (.builtin "isinstance") [u, c]) Q E s := by
  cases ty with
  | non => cases (show u = Value.none from rx); exact PySem.W.kia_one PySem.W.kitx_none I.kIn True.intro e (fun z => nomatch z) h
  | bl y => cases (show u = Value.bool y from rx); exact PySem.W.kia_one PySem.W.kitx_bool I.kIn True.intro e (fun z => nomatch z) h
  | int i => obtain ⟨t, q⟩ := (show ∃ t, u = Value.int i t from rx); cases q; exact PySem.W.kia_one PySem.W.kitx_int I.kIn True.intro e (fun z => nomatch z) h
  | str y => obtain ⟨t, q⟩ := (show ∃ t, u = Value.str y t from rx); cases q; exact PySem.W.kia_one PySem.W.kitx_str I.kIn True.intro e (fun z => nomatch z) h
  | flt y => obtain ⟨t, q⟩ := (show ∃ t, u = Value.float y t from rx); cases q; exact PySem.W.kia_one PySem.W.kitx_float I.kIn True.intro e (fun z => nomatch z) h
  | @lst a xs ea =>
    cases (show u = Value.ref a from rx)
    obtain ⟨_, _, n, _, h1⟩ := (show ObjOk X.prog X.w H s.heap a (.lst xs) from I.hok a _ ea)
    exact PySem.W.kia_one PySem.W.kitx_list I.kIn ⟨_, h1, rfl⟩ e (fun z => nomatch z) h
  | @frz a ob xs ea =>
    cases (show u = Value.ref a from rx)
    obtain ⟨_, _, _, n, _, h1⟩ := (show ObjOk X.prog X.w H s.heap a (.frz ob (.lst xs)) from I.hok a _ ea)
    exact PySem.W.kia_one PySem.W.kitx_list I.kIn ⟨_, h1, rfl⟩ e (fun z => nomatch z) h
  | @tup a xs ea =>
    cases (show u = Value.ref a from rx)
    obtain ⟨_, _, _, p⟩ := (show ObjOk X.prog X.w H s.heap a (.tup xs) from I.hok a _ ea)
    obtain ⟨o, h1, h2, _⟩ := p
    exact PySem.W.kia_one PySem.W.kitx_tuple I.kIn ⟨o, h1, h2⟩ e (fun z => nomatch z) h
  | @dK a kvs ea =>
    cases (show u = Value.ref a from rx)
    obtain ⟨_, _, vs, _, p⟩ := (show ObjOk X.prog X.w H s.heap a (.dK kvs) from I.hok a _ ea)
    obtain ⟨o, es, ep, h1, h2, _⟩ := p
    exact PySem.W.kia_one PySem.W.kitx_dict I.kIn ⟨o, h1, h2.1⟩ e (fun z => nomatch z) h
  | @dT a kvs ea =>
    cases (show u = Value.ref a from rx)
    obtain ⟨_, _, xs, _, o, es, ep, h1, h2, _⟩ := (show ObjOk X.prog X.w H s.heap a (.dT kvs) from I.hok a _ ea)
    exact PySem.W.kia_one PySem.W.kitx_dict I.kIn ⟨o, h1, h2.1⟩ e (fun z => nomatch z) h
  | @ins a C dx fs ea cl ha hn htk hm =>
    cases (show u = Value.ref a from rx)
    obtain ⟨mA, O, _⟩ := ins_get I.hok ea
    obtain ⟨od, J, _⟩ := O.look
    exact PySem.W.kia_one (PySem.W.kitx_own (cl.get _) cl.hd ha hn htk hm) I.kIn J e (fun z => nomatch z) h
end
end L2
namespace L2
open PySem PySem.Spec PyProof.Rows
structure Room (k : Nat) (A : Around) : Prop where
  hd : A.handled = none
  dp : A.depth + 3 * k + 5 < recursionLimit
  un : A.units + 16 * k + 200 < cLine
theorem Room.mono {j k : Nat} {A : Around} (r : Room k A) (h : j ≤ k) : Room j A := ⟨r.hd, by have := r.dp; omega, by have := r.un; omega⟩
theorem Room.deeper {k : Nat} {A : Around} (r : Room (k + 1) A) (env : Env) : Room k (A.deeper env) :=
  ⟨r.hd, by have := r.dp; show A.depth + 1 + 3 * k + 5 < _; omega, by have := r.un; show A.units + 3 + 16 * k + 200 < _; omega⟩
theorem Room.depth {k : Nat} {A : Around} (r : Room k A) : A.depth < recursionLimit := by have := r.dp; omega
theorem Room.units0 {k : Nat} {A : Around} (r : Room k A) : A.units < cLine := by have := r.un; omega
noncomputable def tNil : TA := fun _ H Q => Q [] H
noncomputable def tCons (ta : TE) (tr : TA) : TA := fun σ H Q => ta σ H fun x H1 => tr σ H1 fun xs H2 => Q (x :: xs) H2
section
variable {X : Cx} {e : Expr} {es : List Expr} {te : TE} {t : TA} {pos : Pos}
theorem pa_nil : PA X [] tNil := fun _ _ _ _ H Q I h => Calls.spliced_nil ⟨[], H, I, .nil, h⟩
theorem pa_cons (ha : PE X e te) (hr : PA X es t) (hs : starEach (e :: es) X.env = (false, eval e X.env) :: starEach es X.env := by rfl) : PA X (e :: es) (tCons te t) := by
  intro pos pins s σ H Q I h
  rw [hs]
  show wpAny _ _ (spliced ((false, eval e X.env) :: backTo pos (starEach es X.env))) _ _ s
  refine Calls.spliced_cons (thn (ha pins s σ H _ I h) fun u s1 ⟨x, H1, I1, r1, q1⟩ => ?_)
  exact thn (hr pos pins s1 σ H1 _ I1 q1) fun us s2 ⟨xs, H2, I2, r2, q2⟩ => ⟨x :: xs, H2, I2, .cons r1 r2, q2⟩
noncomputable def tTup (t : TA) : TE := fun σ H Q => t σ H fun xs H1 => xs.length ≤ sizeLine ∧ ∀ p, H1 p = none → Q (.ref p) (upd H1 p (.tup xs))
noncomputable def tLst (t : TA) : TE := fun σ H Q => t σ H fun xs H1 => xs.length ≤ sizeLine ∧ ∀ p, H1 p = none → Q (.ref p) (upd H1 p (.lst xs))
theorem pe_tup {x1} (h : PA X es t) : PE X (.Tuple es x1 pos) (tTup t) := by
  intro pins s σ H Q I hq
  refine wpAny_Tuple_spliced (thn (h pos pins s σ H _ I hq) fun us s1 ⟨xs, H1, I1, r, z, q⟩ => ⟨by rw [← r.length]; exact z, ?_⟩)
  have hf : H1 s1.heap.objs.size = none := I1.hok.fresh (Nat.le_refl _)
  refine ⟨.ref s1.heap.objs.size, upd H1 s1.heap.objs.size (.tup xs), I1.laid (t' := s1.toks) (fun b u e => Heap.get?_push_of_some _ e) (Nat.le_refl _) ?_, rfl, q _ hf⟩
  exact ⟨z, us, r, ⟨_, Heap.get?_push_size _ rfl, rfl, _, rfl⟩⟩
theorem pe_lst (h : PA X es t) : PE X (.List es pos) (tLst t) := by
  intro pins s σ H Q I hq
  refine wpAny_List_spliced (thn (h pos pins s σ H _ I hq) fun us s1 ⟨xs, H1, I1, r, z, q⟩ => ⟨by rw [← r.length]; exact z, ?_⟩)
  have hf : H1 s1.heap.objs.size = none := I1.hok.fresh (Nat.le_refl _)
  refine ⟨.ref s1.heap.objs.size, upd H1 s1.heap.objs.size (.lst xs), I1.laid (t' := s1.toks) (fun b u e => Heap.get?_push_of_some _ e) (Nat.le_refl _) ?_, rfl, q _ hf⟩
  exact ⟨z, us, 0, r, Heap.get?_push_size _ rfl⟩
end
noncomputable abbrev Sp := List V → Hp → VK → XK → Prop
noncomputable abbrev CXT := List Env → Hp → Shared → XK → Value → Shared → Prop
structure Env0 (P : Program) (w : World) (K : PySem.W.Frag) (mg : Str → Option Value) (base : Heap) (A : Around) (outer : List Env) (s : Shared) (H : Hp) : Prop where
  frames : A.frames = some outer
  mod : Mod K mg base
  bs : ∀ b o, base.get? b = some o → s.heap.get? b = some o ∧ H b = none
  bsz : base.objs.size ≤ s.heap.objs.size
  funs : s.heap.FunFrames base outer
  frf : ∀ b ∈ frs outer, H b = none
  hok : HOk P w H s.heap
  bare : AllBare s.gens
noncomputable def CE (outer : List Env) (P : Program) (w : World) (H : Hp) (s : Shared) (Q : VK) (u : Value) (s' : Shared) : Prop :=
  ∃ v H', s'.os = s.os ∧ AllBare s'.gens ∧ Un (frs outer) [] H H' s.heap s'.heap ∧ HOk P w H' s'.heap ∧ RelV v u ∧ Q v H'
noncomputable def CR (CX : CXT) (outer : List Env) (P : Program) (w : World) (H : Hp) (s : Shared) (Q : VK) (E : XK) (r : Result) (s' : Shared) : Prop :=
  match r with
  | .ok (.ret u) => CE outer P w H s Q u s'
  | .ok _ => False
  | .error e => CX outer H s E e s'
structure FnOk (P : Program) (w : World) (K : PySem.W.Frag) (mg : Str → Option Value) (base : Heap) (CX : CXT) (k : Nat) (f : Addr) (fd : FuncData) (ps : List Str) (sp : Sp) : Prop where
  len : ∀ vs H Q E, sp vs H Q E → vs.length = ps.length
  run : ∀ (A : Around) (outer : List Env) (s : Shared) (H : Hp) (args : Args) (us : List Value) (vs : List V) (Q : VK) (E : XK), Room k A → Env0 P w K mg base A outer s H → BindsTo s fd args (ps.zip us) → Vals vs us → sp vs H Q E →
    codeAny (model P w) A (.call (.ref f) args) (CR CX outer P w H s Q E) s
section
variable {X : Cx} {pins : List (Addr × Obj)} {σ : St} {H : Hp} {s s' : Shared}
theorem Inv.env0 (I : Inv X pins σ H s) : Env0 X.prog X.w X.K X.mg X.base X.A X.stack s H :=
  ⟨I.ok.frames, I.ok.mod, I.bs, Nat.le_trans I.ok.bsz I.sz, I.stack, I.stkFree, I.hok, I.bare⟩
theorem Inv.after {Q : VK} {u : Value} (I : Inv X pins σ H s) (h : CE X.stack X.prog X.w H s Q u s') : EP X pins σ Q u s' := by
  obtain ⟨v, H', os, bare, un, hok, r, q⟩ := h
  obtain ⟨hh, g, d, t, os'⟩ := s'
  obtain rfl : os' = s.os := os
  exact ⟨v, H', I.call (h' := hh) (g' := g) (d' := d) (t' := t) (ch := []) un hok bare (fun b z => absurd z (by simp)), r, q⟩
end
noncomputable def tCall (sp : Sp) (dvs : List V) (E : XK) (t : TA) : TE := fun σ H Q => t σ H fun vs H1 => sp (vs ++ dvs) H1 Q E
noncomputable def Binds (K : PySem.W.Frag) (fd : FuncData) (ps : List Str) (ds : List Value) : Prop :=
  ∀ (s : Shared) (us : List Value), K.In s.heap → (us ++ ds).length = ps.length → BindsTo s fd ⟨us, []⟩ (ps.zip (us ++ ds))
theorem Binds.all {K : PySem.W.Frag} {fd : FuncData} {ps : List Str} (h : ∀ us : List Value, us.length = ps.length → bindArgs fd ⟨us, []⟩ = pure (ps.zip us)) : Binds K fd ps [] := fun s us _ hl => by
  rw [List.append_nil] at hl ⊢
  exact .of_eq (h us hl)
noncomputable def Passes (CX : CXT) (X : Cx) (E : XK) : Prop := ∀ (pins : List (Addr × Obj)) (σ : St) (H : Hp) (s : Shared) (e : Value) (s' : Shared), Inv X pins σ H s → CX X.stack H s E e s' → X.xe e s'
section
variable {X : Cx} {CX : CXT} {k : Nat} {f C : Addr} {fd : FuncData} {ps : List Str} {sp : Sp} {dvs : List V} {ds : List Value} {E : XK} {x m : Str} {p pos apos : Pos} {e o : Expr} {es : List Expr} {ta : TE} {t : TA}
theorem run_fn {pins : List (Addr × Obj)} {σ : St} {H : Hp} {s : Shared} {Q : VK} {us : List Value} {vs : List V} (F : FnOk X.prog X.w X.K X.mg X.base CX k f fd ps sp) (hr : Room k X.A) (hb : Binds X.K fd ps ds) (hd : Vals dvs ds) (hx : Passes CX X E)
    (I : Inv X pins σ H s) (r : Vals vs us) (h : sp (vs ++ dvs) H Q E) : wpAny (model X.prog X.w) X.A (call (.ref f) us) (EP X pins σ Q) X.xe s := by
  have r2 : Vals (vs ++ dvs) (us ++ ds) := r.append hd
  have hl : (us ++ ds).length = ps.length := by rw [← r2.length]; exact F.len _ _ _ _ h
  refine wpAny_call (codeAny_mono (F.run X.A X.stack s H ⟨us, []⟩ (us ++ ds) (vs ++ dvs) Q E hr I.env0 (hb s us I.kIn hl) r2 h) fun r s' hq => ?_)
  cases r with
  | error e => exact hx pins σ H s e s' I hq
  | ok fl =>
    cases fl with
    | ret u => exact I.after hq
    | next => exact False.elim hq
    | brk => exact False.elim hq
    | cont => exact False.elim hq
theorem pe_call (F : FnOk X.prog X.w X.K X.mg X.base CX k f fd ps sp) (hr : Room k X.A) (hg : Gl X x) (hm : X.mg x = some (.ref f)) (hk : PySem.W.keepIn X.K (.ref f) = true) (hb : Binds X.K fd ps ds) (hd : Vals dvs ds) (hx : Passes CX X E)
    (ha : PA X (e :: es) t) (hdb : (x == ("__debug__" : Str)) = false := by decide) (he : starEach (e :: es) X.env = (false, eval e X.env) :: starEach es X.env := by rfl) (hpl : (backTo pos (starEach es X.env)).any (·.1) = false := by rfl) :
    PE X (.Call (.Name x p) (e :: es) [] pos) (tCall sp dvs E t) := by
  intro pins s σ H Q I h
  refine wpAny_Call_Name_kw (ld_glob I hg hm ?_ hdb)
  refine PySem.W.callWith_K (h₀ := X.base) I.ok.mod.kin hk (thn (ha pos pins s σ H _ I h) fun us s1 ⟨vs, H1, I1, r, q⟩ => ⟨I1.kIn, ?_⟩) he hpl
  exact run_fn F hr hb hd hx I1 r q
structure Mk (K : PySem.W.Frag) (C f : Addr) : Prop where
  makes : PySem.W.makesIn K C = true
  init : PySem.W.findIn K (.ref C) "__init__" = some (some (.ref f))
  fn : PySem.W.isFn K (.ref f) = true
  kp : PySem.W.keepIn K (.ref C) = true
end
section
variable {X : Cx} {CX : CXT} {k : Nat} {f C : Addr} {fd : FuncData} {ps ks : List Str} {sp : Sp} {E : XK} {x m : Str} {p pos apos kpos : Pos} {e o : Expr} {es : List Expr} {kws : List Keyword} {te ta : TE} {t tk : TA} {nm : Option Str}
structure KBinds (K : PySem.W.Frag) (fd : FuncData) (ps ks : List Str) (g : List Value → List Value → List Value) (gV : List V → List V → List V) : Prop where
  to : ∀ (s : Shared) (us ws : List Value), K.In s.heap → (g us ws).length = ps.length → BindsTo s fd ⟨us, ks.zip ws⟩ (ps.zip (g us ws))
  rel : ∀ {vs : List V} {us : List Value} {zs : List V} {ws : List Value}, Vals vs us → Vals zs ws → Vals (gV vs zs) (g us ws)
variable {g : List Value → List Value → List Value} {gV : List V → List V → List V}
end
structure FnScope (N P : List Str) (sc : Scope) : Prop where
  kind : sc.kind = .function
  co : sc.isCoroutine = false
  gen : sc.isGenerator = false
  nd : N.Nodup
  pre : N.take P.length = P
  par : ∀ x ∈ P, sc.names.lookup x = some .local ∨ sc.names.lookup x = some .cell
  nofree : ∀ y ∈ sc.names, y.2 ≠ .free
theorem bindL_out {kindOf : Str → Option NameKind} {x : Str} : ∀ {binds : List (Str × Value)} {m : Str → Option Value}, (∀ v, (x, v) ∉ binds) → bindL kindOf binds m x = m x
  | [], _, _ => rfl
  | (n, v) :: r, m, h => by
    unfold bindL
    rw [bindL_out fun w hw => h w (List.mem_cons_of_mem _ hw)]
    split
    · have : x ≠ n := by rintro rfl; exact h v List.mem_cons_self
      simp [this]
    · rfl
theorem bindC_out {kindOf : Str → Option NameKind} {x : Str} : ∀ {binds : List (Str × Value)} {m : Str → Option Value}, (∀ v, (x, v) ∉ binds) → bindC kindOf binds m x = m x
  | [], _, _ => rfl
  | (n, v) :: r, m, h => by
    unfold bindC
    rw [bindC_out fun w hw => h w (List.mem_cons_of_mem _ hw)]
    split
    · rfl
    · have : x ≠ n := by rintro rfl; exact h v List.mem_cons_self
      simp [this]
theorem bindL_get {kindOf : Str → Option NameKind} {x : Str} {v : Value} : ∀ {P : List Str} {vs : List Value} {i : Nat} {m : Str → Option Value}, P.Nodup → P[i]? = some x → vs[i]? = some v → kindOf x = some .local →
    bindL kindOf (P.zip vs) m x = some v
  | [], _, _, _, _, h, _, _ => by simp at h
  | _ :: _, [], _, _, _, _, h, _ => by simp at h
  | p :: P, w :: vs, 0, m, nd, h1, h2, hk => by
    simp at h1 h2; subst h1; subst h2
    show bindL kindOf ((p, w) :: P.zip vs) m p = _
    unfold bindL
    rw [bindL_out fun v hv => (List.nodup_cons.mp nd).1 (List.of_mem_zip hv).1, if_pos hk]
    simp
  | p :: P, w :: vs, i + 1, m, nd, h1, h2, hk => by
    show bindL kindOf ((p, w) :: P.zip vs) m x = _
    unfold bindL
    exact bindL_get (i := i) (List.nodup_cons.mp nd).2 (by simpa using h1) (by simpa using h2) hk
theorem bindC_get {kindOf : Str → Option NameKind} {x : Str} {v : Value} : ∀ {P : List Str} {vs : List Value} {i : Nat} {m : Str → Option Value}, P.Nodup → P[i]? = some x → vs[i]? = some v → kindOf x ≠ some .local →
    bindC kindOf (P.zip vs) m x = some v
  | [], _, _, _, _, h, _, _ => by simp at h
  | _ :: _, [], _, _, _, _, h, _ => by simp at h
  | p :: P, w :: vs, 0, m, nd, h1, h2, hk => by
    simp at h1 h2; subst h1; subst h2
    show bindC kindOf ((p, w) :: P.zip vs) m p = _
    unfold bindC
    rw [bindC_out fun v hv => (List.nodup_cons.mp nd).1 (List.of_mem_zip hv).1, if_neg hk]
    simp
  | p :: P, w :: vs, i + 1, m, nd, h1, h2, hk => by
    show bindC kindOf ((p, w) :: P.zip vs) m x = _
    unfold bindC
    exact bindC_get (i := i) (List.nodup_cons.mp nd).2 (by simpa using h1) (by simpa using h2) hk
noncomputable def start (N : List Str) (vs : List V) : St := vs.map some ++ List.replicate (N.length - vs.length) none
noncomputable def cxOf (CX : CXT) (P : Program) (w : World) (K : PySem.W.Frag) (mg : Str → Option Value) (base : Heap) (N : List Str) (qual : Str) (scope : Scope) (f : Addr) (cd : Value) (A : Around) (outer : List Env) (s : Shared) (H : Hp) (E : XK) : Cx where
  prog := P
  w := w
  K := K
  mg := mg
  base := base
  A := A.deeper (envOfC qual scope s.heap.objs.size f cd)
  N := N
  s₀ := s
  H₀ := H
  env := envOfC qual scope s.heap.objs.size f cd
  outer := outer
  stack := envOfC qual scope s.heap.objs.size f cd :: outer
  ex := []
  calm := true
  fn := fun _ => true
  pn := []
  xe := fun e s' => wpAny (model P w) (A.deeper (envOfC qual scope s.heap.objs.size f cd)) (leaving (envOfC qual scope s.heap.objs.size f cd) e) (fun _ s'' => CX outer H s E e s'') (fun e' s'' => CX outer H s E e' s'') s'
theorem cell_has {sc : Scope} {n : Nat} {x : Str} (h : sc.names.lookup x = some .cell) : ∃ c, (cellsFrom n sc.names []).lookup x = some c := by
  have q := PySem.W.cellsFrom_some sc.names n [] (.inl h)
  exact Option.isSome_iff_exists.mp q
theorem inv_start {CX : CXT} {P : Program} {w : World} {K : PySem.W.Frag} {mg : Str → Option Value} {base : Heap} {N ps : List Str} {qual : Str} {scope : Scope} {f : Addr} {cd : Value} {A : Around} {outer : List Env} {s s1 : Shared} {H : Hp} {E : XK} {us : List Value} {vs : List V}
    (S : FnScope N ps scope) (hd : A.handled = none) (e0 : Env0 P w K mg base A outer s H) (hl : vs.length = ps.length) (r : Vals vs us)
    (x : InCallC s s.heap.objs.size (bindL (envOfC qual scope s.heap.objs.size f cd).kindOf (ps.zip us) fun _ => none) (cellsFrom (s.heap.objs.size + 1) scope.names []) (bindC (envOfC qual scope s.heap.objs.size f cd).kindOf (ps.zip us) fun _ => none) s1) :
    Inv (cxOf CX P w K mg base N qual scope f cd A outer s H E) [] (start N vs) H s1 := by
  have hpl : ps.length ≤ N.length := by have := congrArg List.length S.pre; rw [List.length_take] at this; omega
  obtain ⟨h1, tk, rfl, hk⟩ := x.done
  have noA : ∀ b : Addr, b ∉ (cxOf CX P w K mg base N qual scope f cd A outer s H E).ex := fun b z => absurd (show b ∈ ([] : List Addr) from z) (by simp)
  refine ⟨⟨e0.mod, S.kind, rfl, rfl, Nat.le_refl _, fun y z c h1 h2 => ?_, fun y hy => ?_, fun y c _ h => ?_, fun _ => hd, Around.frames_deeper e0.frames, .inr ⟨rfl, rfl⟩, fun b z => absurd z (noA b), e0.bs, e0.bsz, fun b _ _ => noA b, fun b z => absurd z (noA b), e0.funs, e0.frf⟩,
    rfl, e0.bare, Un.kept hk, ⟨_, x.toInCall.ns, fun i y v h1 h2 h3 => ?_⟩, fun y c h => ⟨_, x.cell y c h⟩, e0.hok.fresh (Nat.le_refl _), fun y c h => ?_, fun p hp => absurd (show p ∈ ([] : List (Addr × Obj)) from hp) (by simp), e0.hok.kept hk, ?_⟩
  · exact name_of_addr x.apart (PySem.mem_of_lookup h1) (PySem.mem_of_lookup h2)
  · have hy : scope.names.lookup y = some .cell ∨ scope.names.lookup y = some .free := hy
    rcases hy with hy | hy
    · exact cell_has hy
    · exact absurd rfl (S.nofree _ (PySem.mem_of_lookup hy))
  · exact Nat.le_of_lt (x.above y c (PySem.mem_of_lookup h))
  · have hi : i < vs.length := by
      unfold start at h2
      by_cases hi : i < vs.length
      · exact hi
      · rw [List.getElem?_append_right (by simpa using hi)] at h2
        rw [List.getElem?_replicate] at h2
        split at h2 <;> cases h2
    have ha : vs[i]? = some v := by
      unfold start at h2
      rw [List.getElem?_append_left (by simpa using hi), List.getElem?_map] at h2
      cases e : vs[i]? with
      | none => rw [e] at h2; cases h2
      | some a => rw [e] at h2; cases h2; rfl
    obtain ⟨u, hu, rv⟩ := r.get ha
    have hp : ps[i]? = some y := by
      rw [← S.pre, List.getElem?_take_of_lt (by omega)]; exact h1
    have ndP : ps.Nodup := by rw [← S.pre]; exact S.nd.sublist (List.take_sublist _ _)
    refine ⟨u, rv, ?_⟩
    rcases S.par y (List.mem_of_getElem? hp) with k | k
    · exact .inl ⟨k, bindL_get ndP hp hu k⟩
    · obtain ⟨c, e⟩ := cell_has (n := s.heap.objs.size + 1) k
      refine .inr ⟨.inl k, c, e, ?_⟩
      have q := x.cell y c e
      rw [bindC_get ndP hp hu (by show scope.names.lookup y ≠ _; rw [k]; decide)] at q
      exact q
  · exact e0.hok.fresh (Nat.le_of_lt (x.above y c (PySem.mem_of_lookup h)))
  · unfold start
    show _ = N.length
    rw [List.length_append, List.length_map, List.length_replicate]
    omega
theorem fn_of {CX : CXT} {P : Program} {w : World} {K : PySem.W.Frag} {mg : Str → Option Value} {base : Heap} {k : Nat} {f : Addr} {name qual : Str} {params : Arguments} {body : List Stmt} {scope : Scope} {dV kV doc pm cdv ct oc : Value} {an od : Option Addr}
    {osl : Array (Option Value)} {N ps : List Str} {sp : Sp} (lk : K.lookup f = some ⟨oc, od, .func (PySem.W.fnOf name qual params body scope dV kV doc pm an cdv ct), osl⟩) (hcd : PySem.W.codeIn K cdv qual = true) (S : FnScope N ps scope)
    (len : ∀ vs H Q E, sp vs H Q E → vs.length = ps.length)
    (hbody : ∀ (A : Around) (outer : List Env) (s : Shared) (H : Hp) (vs : List V) (Q : VK) (E : XK), Room k (A.deeper (envOfC qual scope s.heap.objs.size f cdv)) → sp vs H Q E →
      ∃ t, PSs (cxOf CX P w K mg base N qual scope f cdv A outer s H E) body t ∧ t { nx := fun _ H' => Q .non H', rt := Q } (start N vs) H) :
    FnOk P w K mg base CX (k + 1) f (PySem.W.fnOf name qual params body scope dV kV doc pm an cdv ct) ps sp := by
  refine ⟨len, fun A outer s H args us vs Q E hr e0 hb r hsp => ?_⟩
  have hl := len _ _ _ _ hsp
  have KX : K.In s.heap := e0.mod.kin.keeps fun b o e => (e0.bs b o e).1
  have lim : s.heap.NoLimit := e0.mod.nolimit.keeps fun b o e => (e0.bs b o e).1
  have hkind : ∀ y ∈ ps.zip us, scope.names.lookup y.1 = some .local ∨ (scope.names.lookup y.1 = some .cell ∧ ((cellsFrom (s.heap.objs.size + 1) scope.names []).lookup y.1).isSome = true) := fun ⟨n, v⟩ hy => by
    rcases S.par n (List.of_mem_zip hy).1 with q | q
    · exact .inl q
    · exact .inr ⟨q, PySem.W.cellsFrom_some _ _ _ (.inl q)⟩
  refine codeAny_call_function hr.depth (KX _ _ lk) rfl S.co S.gen rfl (PySem.W.codeRec_of KX hcd) (hb _ _ _ _ ?_)
  refine wpAny_newFunctionEnv_cells S.kind hkind fun env he s1 x => ?_
  subst he
  refine ⟨lim.keeps x.toInCall.keep, codeAny_func ?_⟩
  obtain ⟨t, ht, hq⟩ := hbody A outer s H vs Q E (hr.deeper _) hsp
  have I : Inv (cxOf CX P w K mg base N qual scope f cdv A outer s H E) [] (start N vs) H s1 := inv_start S hr.hd e0 hl r x
  refine wpAny_mono (ht [] s1 (start N vs) H _ I hq) (fun fl s' hs => ?_) fun e s' hs => hs
  have fin : ∀ {σ' : St} {H' : Hp} {v : V} {u : Value}, Inv (cxOf CX P w K mg base N qual scope f cdv A outer s H E) [] σ' H' s' → RelV v u → Q v H' → CE outer P w H s Q u s' :=
    fun {σ' H' v u} J rv q => ⟨v, H', J.os, J.bare, J.base, J.hok, rv, q⟩
  cases fl with
  | ret u =>
    obtain ⟨v, σ', H', J, rv, q⟩ := hs
    exact fin J rv q
  | next =>
    obtain ⟨σ', H', J, q⟩ := hs
    exact fin (v := V.non) (u := Value.none) J rfl q
  | brk =>
    obtain ⟨_, _, _, q⟩ := hs
    exact False.elim q
  | cont =>
    obtain ⟨_, _, _, q⟩ := hs
    exact False.elim q
end L2
namespace L2
open PySem PySem.Spec PyProof.Rows
section
variable {X : Cx} {x : Str} {p pos : Pos} {e : Expr} {es : List Expr} {t : TA} {id T : String} {r : List V → Hp → VK → Prop}
noncomputable def tCB (r : List V → Hp → VK → Prop) (t : TA) : TE := fun σ H Q => t σ H fun vs H1 => r vs H1 Q
theorem pe_callB (hc : CallR X (.builtin id) r) (hg : Gl X x) (hm : X.mg x = none) (hv : bootBuiltins x = some (.builtin id)) (ha : PA X (e :: es) t) (hn : x ≠ "__name__" := by decide) (hdb : (x == ("__debug__" : Str)) = false := by decide)
    (he : starEach (e :: es) X.env = (false, eval e X.env) :: starEach es X.env := by rfl) (hpl : (backTo pos (starEach es X.env)).any (·.1) = false := by rfl) : PE X (.Call (.Name x p) (e :: es) [] pos) (tCB r t) := by
  intro pins s σ H Q I h
  refine wpAny_Call_Name_kw (ld_blt I hg hm hv ?_ hn hdb)
  exact PyProof.Rows.callWith_builtin1 (thn (ha pos pins s σ H _ I h) fun us s1 ⟨vs, H1, I1, r1, q1⟩ => hc pins s1 σ H1 vs us Q I1 r1 q1) he hpl
theorem pe_callTy (hc : CallR X (.type T) r) (hg : Gl X x) (hm : X.mg x = none) (hv : bootBuiltins x = some (.type T)) (ha : PA X (e :: es) t) (hn : x ≠ "__name__" := by decide) (hdb : (x == ("__debug__" : Str)) = false := by decide)
    (he : starEach (e :: es) X.env = (false, eval e X.env) :: starEach es X.env := by rfl) (hpl : (backTo pos (starEach es X.env)).any (·.1) = false := by rfl) : PE X (.Call (.Name x p) (e :: es) [] pos) (tCB r t) := by
  intro pins s σ H Q I h
  refine wpAny_Call_Name_kw (ld_blt I hg hm hv ?_ hn hdb)
  exact PyProof.Rows.callWith_type1 (thn (ha pos pins s σ H _ I h) fun us s1 ⟨vs, H1, I1, r1, q1⟩ => hc pins s1 σ H1 vs us Q I1 r1 q1) he hpl
end
end L2
namespace HT
open PySem PyProof.Rows
section
open PySem.SeqAt
open PySem.AutoSeq1 (wpAny_loadPart')
open PySem.MeetsSeq PySem.MeetsSeq2 PySem.MeetsSeq3
end
section
variable {prog : Program} {w : World} {A : Around} {E : Value → Shared → Prop} {s : Shared}
noncomputable def sIx (n d : Nat) : Option Int → Nat
  | none => d
  | some v => if v < 0 then (v + (n : Int)).toNat else min v.toNat n
end
end HT
namespace L2
open PySem PySem.Spec PyProof.Rows
noncomputable abbrev TO := St → Hp → (Option Int → Hp → Prop) → Prop
noncomputable def PO (X : Cx) (e : Option Expr) (t : TO) : Prop :=
  ∀ (pins : List (Addr × Obj)) (s : Shared) (σ : St) (H : Hp) (Q : Option Int → Hp → Prop), Inv X pins σ H s → t σ H Q →
    wpAny (model X.prog X.w) X.A (evalPart e X.env) (fun u s' => ∃ o H', Inv X pins σ H' s' ∧ IsPart u o ∧ Q o H') X.xe s
noncomputable def tNoPart : TO := fun _ H Q => Q none H
noncomputable def tPart (t : TE) : TO := fun σ H Q => t σ H fun x H1 => ∃ i, x = .int i ∧ Q (some i) H1
theorem intsAre_of {ns : List Int} : ∀ {us : List Value}, Vals (ns.map V.int) us → IntsAre us ns := by
  induction ns with
  | nil => intro us r; rw [List.map_nil] at r; cases r; exact .nil
  | cons n ns ih =>
    intro us r
    rw [List.map_cons] at r
    cases r with
    | cons r1 r2 =>
      obtain ⟨t, e⟩ := r1
      subst e
      exact .cons n t (ih r2)
section
variable {X : Cx} {e : Expr} {te : TE} {lo hi : Option Expr} {tl th : TO} {pos p2 : Pos}
theorem po_none : PO X none tNoPart := by
  intro pins s σ H Q I h
  rw [evalPart_none]
  exact wpAny_pure ⟨none, H, I, .none, h⟩
theorem po_some (h : PE X e te) : PO X (some e) (tPart te) := by
  intro pins s σ H Q I hw
  rw [evalPart_some]
  refine thn (h pins s σ H _ I hw) fun u s1 ⟨x, H1, I1, r1, q1⟩ => ?_
  obtain ⟨i, rfl, q⟩ := q1
  obtain ⟨t, rfl⟩ := r1
  exact ⟨some i, H1, I1, .int i t, q⟩
noncomputable def SlR (X : Cx) (r : V → Option Int → Option Int → Hp → VK → Prop) : Prop :=
  ∀ (pins : List (Addr × Obj)) (s : Shared) (σ : St) (H : Hp) (x : V) (v vl vu : Value) (lo hi : Option Int) (sl : Addr) (Q : VK), Inv X pins σ H s → RelV x v → s.heap.IsSliceOf sl vl vu .none → IsPart vl lo → IsPart vu hi → r x lo hi H Q →
    ∃ T id, typeLookup (.type T) "__getitem__" = pure (some (.builtin id)) ∧ s.TypeIs v T ∧ wpAny (model X.prog X.w) X.A (getItem v (.ref sl)) (EP X pins σ Q) X.xe s
noncomputable def tSl (r : V → Option Int → Option Int → Hp → VK → Prop) (te : TE) (tl th : TO) : TE := fun σ H Q => te σ H fun x H1 => tl σ H1 fun l H2 => th σ H2 fun u H3 => r x l u H3 Q
theorem pe_slice {r : V → Option Int → Option Int → Hp → VK → Prop} (hr : SlR X r) (he : PE X e te) (hl : PO X lo tl) (hu : PO X hi th) : PE X (.Subscript e (.Slice lo hi none p2) pos) (tSl r te tl th) := by
  intro pins s σ H Q I h
  refine Subscript_ (thn (he pins s σ H _ I h) fun v s1 ⟨x, H1, I1, r1, q1⟩ => ?_)
  refine wpAny_Slice (thn (hl pins s1 σ H1 _ I1 q1) fun vl s2 ⟨l, H2, I2, pl, q2⟩ => thn (hu pins s2 σ H2 _ I2 q2) fun vu s3 ⟨u, H3, I3, pu, q3⟩ => ?_)
  rw [evalPart_none]
  refine wpAny_pure ?_
  have I4 : Inv X pins σ H3 { s3 with heap := s3.heap.push { cls := .type "slice", data := .fields #[vl, vu, .none] } } := I3.kept (t' := s3.toks) fun b ob q => Heap.get?_push_of_some _ q
  obtain ⟨T, id, hT, ht, hg⟩ := hr pins { s3 with heap := s3.heap.push { cls := .type "slice", data := .fields #[vl, vu, .none] } } σ H3 x v vl vu l u s3.heap.objs.size Q I4 r1 (Heap.IsSliceOf.new ..) pl pu q3
  show wpAny (model X.prog X.w) X.A (subscriptTail e (.Slice lo hi none p2) v (.ref s3.heap.objs.size)) (EP X pins σ Q) X.xe { s3 with heap := s3.heap.push { cls := .type "slice", data := .fields #[vl, vu, .none] } }
  exact tail_any (ops := [.ref s3.heap.objs.size, v]) ht hT hg (by with_unfolding_all rfl)
noncomputable def cutV (xs : List V) (lo hi : Option Int) : List V := (xs.drop (HT.sIx xs.length 0 lo)).take (HT.sIx xs.length xs.length hi - HT.sIx xs.length 0 lo)
theorem cutV_length (xs : List V) (lo hi : Option Int) : (cutV xs lo hi).length ≤ xs.length := by
  unfold cutV
  rw [List.length_take, List.length_drop]
  omega
end
end L2
namespace L2
open PySem PySem.Spec PyProof.Rows
noncomputable def ixN (n : Nat) (i : Int) : Option Nat := if 0 ≤ i then (if i < n then some i.toNat else none) else if -(n : Int) ≤ i then some (i + n).toNat else none
noncomputable def atI {α : Type} (xs : List α) (i : Int) : Option α := (ixN xs.length i).bind fun j => xs[j]?
theorem ixN_seq {n : Nat} {i : Int} {j : Nat} (h : ixN n i = some j) : seqIndex? i n = some j ∧ j < n ∧ -(n : Int) ≤ i ∧ i < n := by
  unfold ixN at h
  by_cases h0 : 0 ≤ i
  · rw [if_pos h0] at h
    by_cases h1 : i < n
    · rw [if_pos h1] at h
      have e : i.toNat = j := Option.some.inj h
      exact ⟨by rw [seqIndex_of h0 h1, e], by omega, by omega, h1⟩
    · rw [if_neg h1] at h; cases h
  · rw [if_neg h0] at h
    by_cases h1 : -(n : Int) ≤ i
    · rw [if_pos h1] at h
      have e : (i + n).toNat = j := Option.some.inj h
      exact ⟨by rw [seqIndex_neg (by omega) h1, e], by omega, h1, by omega⟩
    · rw [if_neg h1] at h; cases h
theorem atI_get {α : Type} {xs : List α} {i : Int} {v : α} (h : atI xs i = some v) : ∃ j, seqIndex? i xs.length = some j ∧ xs[j]? = some v ∧ j < xs.length ∧ -(xs.length : Int) ≤ i ∧ i < xs.length := by
  unfold atI at h
  cases e : ixN xs.length i with
  | none => rw [e] at h; cases h
  | some j =>
    rw [e] at h
    obtain ⟨h1, h2, h3, h4⟩ := ixN_seq e
    exact ⟨j, h1, h, h2, h3, h4⟩
theorem atI_nat {α : Type} {xs : List α} {j : Nat} {v : α} (h : xs[j]? = some v) : atI xs (j : Int) = some v := by
  have hj : j < xs.length := (List.getElem?_eq_some_iff.mp h).1
  have e : ixN xs.length (j : Int) = some j := by
    unfold ixN
    rw [if_pos (by omega), if_pos (by omega)]; simp
  unfold atI; rw [e]; exact h
noncomputable def PlainIx (b : Expr) : Prop := ∀ o i, subscripted b false o i = operate [o, i] (getItem o i)
noncomputable def IxR (X : Cx) (r : R2) : Prop :=
  ∀ (value slice : Expr) (pins : List (Addr × Obj)) (s : Shared) (σ : St) (H : Hp) (x y : V) (v u : Value) (Q : VK), Inv X pins σ H s → RelV x v → RelV y u → r x y H Q →
    subscripted slice false v u = operate [v, u] (getItem v u) → wpAny (model X.prog X.w) X.A (subscriptTail value slice v u) (EP X pins σ Q) X.xe s
noncomputable def MtR (X : Cx) (id : String) (r : V → List V → Hp → VK → Prop) : Prop :=
  ∀ (pins : List (Addr × Obj)) (s : Shared) (σ : St) (H : Hp) (x : V) (xs : List V) (v : Value) (us : List Value) (Q : VK), Inv X pins σ H s → RelV x v → Vals xs us → r x xs H Q →
    wpAny (model X.prog X.w) X.A (call (.builtin id) (v :: us)) (EP X pins σ Q) X.xe s
section
variable {X : Cx} {a b : Expr} {ta tb : TE} {pos : Pos}
theorem pe_ix {r : R2} (hr : IxR X r) (ha : PE X a ta) (hb : PE X b tb) (hs : PlainIx b) : PE X (.Subscript a b pos) (tOp r ta tb) := by
  intro pins s σ H Q I h
  exact Subscript_ (binT ha hb I h fun v u s2 x y H2 I2 rx ry q => hr a b pins s2 σ H2 x y v u Q I2 rx ry q (hs _ _))
noncomputable def rIxL (K : PySem.W.Frag) : R2 := fun x y H Q => ∃ p xs i v, x = .ref p ∧ y = .int i ∧ SqL K H p xs ∧ atI xs i = some v ∧ Q v H
theorem ix_list : IxR X (rIxL X.K) := by
  intro value slice pins s σ H x y v u Q I rx ry h hs
  obtain ⟨p, xs, i, z, rfl, rfl, hq, he, q⟩ := h
  cases rx
  obtain ⟨t, rfl⟩ := ry
  obtain ⟨its, r, pl, hz⟩ := I.list hq
  obtain ⟨j, h1, h2, h3, h4, h5⟩ := atI_get he
  obtain ⟨w, ew, rw'⟩ := r.get h2
  have hl := r.length
  have hn := line63
  have fin : EP X pins σ Q w s := ⟨z, H, I, rw', q⟩
  by_cases h0 : 0 ≤ i
  · have hj : i.toNat = j := by
      rw [seqIndex_of h0 h5] at h1
      exact Option.some.inj h1
    exact item_listR pl.isList h0 (by omega) (by rw [hj]; simpa using ew) fin hs
  · have hj : (i + (its.toArray.size : Int)).toNat = j := by
      rw [seqIndex_neg (by omega) h4] at h1
      rw [List.size_toArray, ← hl]
      exact Option.some.inj h1
    exact subscriptTail_builtinR (x := w) pl.isList.typeIs slot_list_getitem.lookup
      (wpAny_getItem_list_neg (Q := fun r s' => r = w ∧ EP X pins σ Q r s') pl.isList (by omega) (by rw [List.size_toArray] <;> omega) (by omega) (by rw [hj]; simpa using ew) ⟨rfl, fin⟩) hs
theorem mapSeq_set (its : List Value) (n j : Nat) (u : Value) : Obj.mapSeq (·.setIfInBounds j u) { cls := .type "list", data := .seq its.toArray n } = { cls := .type "list", data := .seq (its.set j u).toArray n } := by
  simp [Obj.mapSeq]
theorem Inv.lst {pins : List (Addr × Obj)} {σ : St} {H : Hp} {s : Shared} {p : Addr} {xs : List V} (I : Inv X pins σ H s) (h : H p = some (.lst xs)) :
    ∃ (its : List Value) (n : Nat), Vals xs its ∧ s.heap.get? p = some { cls := .type "list", data := .seq its.toArray n } ∧ xs.length ≤ sizeLine := by
  obtain ⟨z, its, n, r, e⟩ := I.hok p _ h
  exact ⟨its, n, r, e, z⟩
theorem Inv.lstUpd {pins : List (Addr × Obj)} {σ : St} {H : Hp} {s : Shared} {p : Addr} {xs ys : List V} {its its' : List Value} {n n' : Nat} {f : Obj → Obj} (I : Inv X pins σ H s) (h : H p = some (.lst xs))
    (ho : s.heap.get? p = some { cls := .type "list", data := .seq its.toArray n }) (hf : f { cls := .type "list", data := .seq its.toArray n } = { cls := .type "list", data := .seq its'.toArray n' }) (r : Vals ys its') (hz : ys.length ≤ sizeLine) (t : Nat) :
    Inv X pins σ (upd H p (.lst ys)) { s with heap := s.heap.update p f, toks := t } := by
  have e : (s.heap.update p f).get? p = some { cls := .type "list", data := .seq its'.toArray n' } := by
    rw [Heap.get?_update_self f ho (by rw [hf] <;> rfl), hf]
  refine I.write (x := p) (e := p) (by rw [h]; trivial) (.inl rfl) (fun b u hb q => (Heap.get?_update_other _ _ (Ne.symm hb)).trans q) ⟨_, e⟩ ?_
  exact ⟨hz, its', n', r, e⟩
noncomputable def rSetL : V → V → V → Hp → (Hp → Prop) → Prop := fun o i v H Q => ∃ p xs k j, o = .ref p ∧ i = .int k ∧ H p = some (.lst xs) ∧ ixN xs.length k = some j ∧ Q (upd H p (.lst (xs.set j v)))
theorem set_list : PSet X rSetL := by
  intro pins s σ H o i v ov iv u Q I ro ri rv h
  obtain ⟨p, xs, k, j, rfl, rfl, hp, hj, q⟩ := h
  cases ro
  obtain ⟨t, rfl⟩ := ri
  obtain ⟨its, n, r, ho, hz⟩ := I.lst hp
  obtain ⟨h1, h2, h3, h4⟩ := ixN_seq hj
  have hl := r.length
  have hn := line63
  have I' : Inv X pins σ (upd H p (.lst (xs.set j v))) { s with heap := s.heap.update p (Obj.mapSeq (·.setIfInBounds j u)) } :=
    I.lstUpd hp ho (mapSeq_set its n j u) (r.set rv j) (by rw [List.length_set]; exact hz) s.toks
  by_cases h0 : 0 ≤ k
  · have hk : k.toNat = j := by
      rw [seqIndex_of h0 h4] at h1
      exact Option.some.inj h1
    exact PySem.W.ki_setAt ho h0 (by omega) (by rw [List.size_toArray, ← hl]; exact h4) (by rw [hk]; exact ⟨_, I', q⟩)
  · have hk : (k + (its.toArray.size : Int)).toNat = j := by
      rw [seqIndex_neg (by omega) h3] at h1
      rw [List.size_toArray, ← hl]
      exact Option.some.inj h1
    exact PySem.W.ki_setBack ho (by omega) (by rw [List.size_toArray, ← hl]; exact h3) (by omega) (by rw [hk]; exact ⟨_, I', q⟩)
theorem slice_bounds (lo hi : Option Int) (n : Nat) : (sliceBounds lo hi none n).1 = ((HT.sIx n 0 lo : Nat) : Int) ∧ (sliceBounds lo hi none n).2.1 = ((HT.sIx n n hi : Nat) : Int) ∧ (sliceBounds lo hi none n).2.2 = 1 := by
  refine ⟨?_, ?_, rfl⟩
  · cases lo with
    | none => simp [sliceBounds, HT.sIx]
    | some i =>
      simp only [sliceBounds, HT.sIx, Option.getD_none, show (1 : Int) > 0 by decide, if_true]
      by_cases h : i < 0
      · simp only [h, if_true] <;> omega
      · simp only [h, if_false] <;> omega
  · cases hi with
    | none => simp [sliceBounds, HT.sIx]
    | some i =>
      simp only [sliceBounds, HT.sIx, Option.getD_none, show (1 : Int) > 0 by decide, if_true]
      by_cases h : i < 0
      · simp only [h, if_true] <;> omega
      · simp only [h, if_false] <;> omega
theorem slicePick_cut (its : List Value) (lo hi : Option Int) : slicePick its.toArray lo hi none = ((its.drop (HT.sIx its.length 0 lo)).take (HT.sIx its.length its.length hi - HT.sIx its.length 0 lo)).toArray := by
  obtain ⟨h1, h2, h3⟩ := slice_bounds lo hi its.toArray.size
  unfold slicePick
  rw [h1, h2, h3]
  simp only [sliceRange_one, pick_run, List.size_toArray] <;> rfl
noncomputable def rSlL (K : PySem.W.Frag) : V → Option Int → Option Int → Hp → VK → Prop := fun x lo hi H Q => ∃ a xs, x = .ref a ∧ SqL K H a xs ∧ ∀ p, H p = none → Q (.ref p) (upd H p (.lst (cutV xs lo hi)))
theorem sl_list : SlR X (rSlL X.K) := by
  intro pins s σ H x v vl vu lo hi sl Q I rx hs pl pu h
  obtain ⟨a, xs, rfl, hx, q⟩ := h
  cases rx
  obtain ⟨its, r, ht, hz⟩ := I.list hx
  have hlen := r.length
  refine ⟨"list", _, slot_list_getitem.lookup, ht.isList.typeIs, ?_⟩
  refine wpAny_getItem_list_slice ht.isList hs pl pu .none (by simp) ?_ (by rw [List.size_toArray] <;> omega)
  rw [slicePick_cut, ← hlen]
  refine ⟨.ref s.heap.objs.size, _, I.laid (t' := s.toks) (o := .lst (cutV xs lo hi)) (fun b ob q => Heap.get?_push_of_some _ q) (Nat.le_refl _) ?_, rfl, q _ (I.hok.fresh (Nat.le_refl _))⟩
  exact ⟨Nat.le_trans (cutV_length xs lo hi) hz, _, 0, (r.drop (HT.sIx xs.length 0 lo)).take (HT.sIx xs.length xs.length hi - HT.sIx xs.length 0 lo), Heap.get?_push_size _ rfl⟩
noncomputable def flatV : V → Bool
  | .non => true
  | .bl _ => true
  | .int _ => true
  | .str _ => true
  | _ => false
noncomputable def eqV : V → V → Bool
  | .non, .non => true
  | .bl a, .bl b => a == b
  | .bl a, .int b => (if a then 1 else 0) == b
  | .int a, .bl b => a == (if b then 1 else 0)
  | .int a, .int b => a == b
  | .str a, .str b => a == b
  | _, _ => false
theorem eqAt_V {A : Around} {s : Shared} {y x : V} {u v : Value} (ry : RelV y u) (rx : RelV x v) (fy : flatV y = true) (fx : flatV x = true) : SeqAt.EqAt A s u v (eqV y x) := by
  cases y with
  | non =>
    cases ry
    cases x with
    | non => cases rx; exact SeqAt.EqAt.same _
    | bl b => cases rx; exact SeqAt.EqAt.none_bool b
    | int b => obtain ⟨t, rfl⟩ := rx; exact SeqAt.EqAt.none_int b t
    | str b => obtain ⟨t, rfl⟩ := rx; exact SeqAt.EqAt.none_str b t
    | _ => exact absurd (show false = true from fx) Bool.false_ne_true
  | bl a =>
    cases ry
    cases x with
    | non => cases rx; exact SeqAt.EqAt.bool_none a
    | bl b => cases rx; exact SeqAt.EqAt.bool_bool a b
    | int b => obtain ⟨t, rfl⟩ := rx; exact SeqAt.EqAt.bool_int a b t
    | str b => obtain ⟨t, rfl⟩ := rx; exact SeqAt.EqAt.bool_str a b t
    | _ => exact absurd (show false = true from fx) Bool.false_ne_true
  | int a =>
    obtain ⟨t', rfl⟩ := ry
    cases x with
    | non => cases rx; exact SeqAt.EqAt.int_none a t'
    | bl b => cases rx; exact SeqAt.EqAt.int_bool a t' b
    | int b => obtain ⟨t, rfl⟩ := rx; exact SeqAt.EqAt.int_int a t' b t
    | str b => obtain ⟨t, rfl⟩ := rx; exact SeqAt.EqAt.int_str a t' b t
    | _ => exact absurd (show false = true from fx) Bool.false_ne_true
  | str a =>
    obtain ⟨t', rfl⟩ := ry
    cases x with
    | non => cases rx; exact SeqAt.EqAt.str_none a t'
    | bl b => cases rx; exact SeqAt.EqAt.str_bool a t' b
    | int b => obtain ⟨t, rfl⟩ := rx; exact SeqAt.EqAt.str_int a t' b t
    | str b => obtain ⟨t, rfl⟩ := rx; exact SeqAt.EqAt.str_str a t' b t
    | _ => exact absurd (show false = true from fx) Bool.false_ne_true
  | _ => exact absurd (show false = true from fy) Bool.false_ne_true
noncomputable def eqU (x : V) (u : Value) : Bool := match u with
  | .none => eqV .non x
  | .bool b => eqV (.bl b) x
  | .int i _ => eqV (.int i) x
  | .str z _ => eqV (.str z) x
  | _ => false
theorem eqU_of {x y : V} {u : Value} (r : RelV y u) (f : flatV y = true) : eqU x u = eqV y x := by
  cases y with
  | non => cases r; rfl
  | bl b => cases r; rfl
  | int i => obtain ⟨t, rfl⟩ := r; rfl
  | str z => obtain ⟨t, rfl⟩ := r; rfl
  | _ => exact absurd (show false = true from f) Bool.false_ne_true
theorem any_eqU {x : V} : ∀ {xs : List V} {us : List Value}, Vals xs us → xs.all flatV = true → us.any (eqU x) = xs.any fun y => eqV y x
  | _, _, .nil, _ => rfl
  | y :: xs, u :: us, .cons r t, f => by
    rw [List.all_cons, Bool.and_eq_true] at f
    rw [List.any_cons, List.any_cons, eqU_of r f.1, any_eqU t f.2]
theorem mem_eqAt {A : Around} {s : Shared} {x : V} {v : Value} (rx : RelV x v) (fx : flatV x = true) : ∀ {xs : List V} {us : List Value}, Vals xs us → xs.all flatV = true → ∀ u ∈ us, SeqAt.EqAt A s u v (eqU x u)
  | _, _, .nil, _ => fun u hu => by cases hu
  | y :: xs, u :: us, .cons r t, f => fun u' hu => by
    rw [List.all_cons, Bool.and_eq_true] at f
    rcases List.mem_cons.mp hu with rfl | hu
    · rw [eqU_of r f.1]; exact eqAt_V r rx f.1 fx
    · exact mem_eqAt rx fx t f.2 u' hu
noncomputable def inV (x : V) (xs : List V) : Bool := xs.any fun y => eqV y x
noncomputable def rIn (K : PySem.W.Frag) (neg : Bool) : R2 := fun x y H Q => ∃ p xs, y = .ref p ∧ (SqL K H p xs ∨ SqT K H p xs) ∧ flatV x = true ∧ xs.all flatV = true ∧ Q (.bl (if neg then !inV x xs else inV x xs)) H
theorem op_in_seq : OpR X (compareOp .In) (rIn X.K false) := by
  intro pins s σ H x y v u Q I rx ry h
  obtain ⟨p, xs, rfl, hq, fx, fs, q⟩ := h
  cases ry
  rcases hq with hq | hq
  · obtain ⟨its, r, pl, hz⟩ := I.list hq
    refine SeqAt.in_listAt (eqU x) pl.isList (fun w hw => mem_eqAt rx fx r fs w (by simpa using hw)) ⟨.bl _, H, I, rfl, ?_⟩
    rw [show its.toArray.any (eqU x) = its.any (eqU x) by simp, any_eqU r fs]
    exact q
  · obtain ⟨its, r, pl, hz⟩ := I.tuple hq
    refine SeqAt.in_tupleAt (eqU x) pl (fun w hw => mem_eqAt rx fx r fs w (by simpa using hw)) ⟨.bl _, H, I, rfl, ?_⟩
    rw [show its.toArray.any (eqU x) = its.any (eqU x) by simp, any_eqU r fs]
    exact q
theorem call_list_of : CallR X (.type "list") (fun xs H Q => ∃ p ys, xs = [.ref p] ∧ (SqL X.K H p ys ∨ SqT X.K H p ys) ∧ ∀ l, H l = none → Q (.ref l) (upd H l (.lst ys))) := by
  intro pins s σ H xs us Q I r h
  obtain ⟨p, ys, rfl, hq, q⟩ := h
  obtain ⟨u, rfl, rx⟩ := vals1 r
  cases rx
  have fin : ∀ (its : List Value), Vals ys its → ys.length ≤ sizeLine → ∀ (h' : Heap) (c' : Nat), (∀ b o', s.heap.get? b = some o' → h'.get? b = some o') →
      h'.get? s.heap.objs.size = some { cls := .type "list", dict := none, data := .seq its.toArray c', slots := #[] } → EP X pins σ Q (.ref s.heap.objs.size) { s with heap := h' } := fun its r' hz h' c' kp e =>
    ⟨.ref s.heap.objs.size, _, I.laid (t' := s.toks) kp (Nat.le_refl _) (show ObjOk X.prog X.w _ h' _ (.lst ys) from ⟨hz, its, c', r', e⟩), rfl, q _ (I.hok.fresh (Nat.le_refl _))⟩
  rcases hq with hq | hq
  · obtain ⟨its, r', pl, hz⟩ := I.list hq
    have hlen := r'.length
    obtain ⟨o, ho, hc, n, hd⟩ := pl.isList
    exact call_list_seq p (.inl rfl) ho hc hd (fun h' c' kp e => fin its r' hz h' c' kp e) (by simp only [List.size_toArray] <;> omega)
  · obtain ⟨its, r', pl, hz⟩ := I.tuple hq
    have hlen := r'.length
    obtain ⟨o, ho, hc, n, hd⟩ := pl
    exact call_list_seq p (.inr rfl) ho hc hd (fun h' c' kp e => fin its r' hz h' c' kp e) (by simp only [List.size_toArray] <;> omega)
noncomputable def tyV (K : PySem.W.Frag) (T : String) (x : V) (H : Hp) : Prop := match x with
  | .str _ => T = "str"
  | .int _ => T = "int"
  | .ref p => (T = "list" ∧ ∃ xs, SqL K H p xs) ∨ (T = "tuple" ∧ ∃ o, K.lookup p = some o ∧ o.cls = .type "tuple" ∧ o.dict = none) ∨
      (T = "dict" ∧ ((∃ kvs, H p = some (.dK kvs)) ∨ ∃ kvs, H p = some (.dT kvs))) ∨ (T = "set" ∧ ∃ S n, H p = some (.set S n))
  | _ => False
theorem tyV_is {pins : List (Addr × Obj)} {σ : St} {H : Hp} {s : Shared} {T : String} {x : V} {v : Value} (I : Inv X pins σ H s) (r : RelV x v) (ty : tyV X.K T x H) :
    s.TypeIs v T ∧ ∀ a, v = .ref a → ∃ ob, s.heap.get? a = some ob ∧ ob.dict = none := by
  cases x with
  | str z =>
    obtain ⟨t, rfl⟩ := r
    cases (show T = "str" from ty)
    exact ⟨typeIs_str s z t, fun _ e => nomatch e⟩
  | int i =>
    obtain ⟨t, rfl⟩ := r
    cases (show T = "int" from ty)
    exact ⟨typeIs_int s i t, fun _ e => nomatch e⟩
  | ref p =>
    cases r
    rcases ty with ⟨rfl, xs, hq⟩ | ⟨rfl, o, hk, hc, hd⟩ | ⟨rfl, hk⟩ | ⟨rfl, S, n, hk⟩
    · obtain ⟨its, _, pl, _⟩ := I.list hq
      refine ⟨pl.isList.typeIs, fun a e => ?_⟩
      cases e
      obtain ⟨o, n, e, c, hd, _⟩ := pl
      exact ⟨o, e, hd⟩
    · refine ⟨⟨o, I.kIn p o hk, hc⟩, fun a e => ?_⟩
      cases e
      exact ⟨o, I.kIn _ o hk, hd⟩
    · have z : ∃ o, s.heap.get? p = some o ∧ o.ExactDict := by
        rcases hk with ⟨kvs, hk⟩ | ⟨kvs, hk⟩
        · obtain ⟨_, _, _, _, o, _, _, e, ex, _⟩ := I.hok p _ hk
          exact ⟨o, e, ex⟩
        · obtain ⟨_, _, _, _, o, _, _, e, ex, _⟩ := I.hok p _ hk
          exact ⟨o, e, ex⟩
      obtain ⟨o, e, ex⟩ := z
      refine ⟨⟨o, e, ex.1⟩, fun a e2 => ?_⟩
      cases e2
      exact ⟨o, e, ex.2.1⟩
    · obtain ⟨o, _, _, _, e, ex, _⟩ := I.hok p _ hk
      refine ⟨⟨o, e, ex.1⟩, fun a e2 => ?_⟩
      cases e2
      exact ⟨o, e, ex.2.1⟩
  | _ => exact False.elim ty
noncomputable def tBM0 (K : PySem.W.Frag) (T : String) (r : V → List V → Hp → VK → Prop) (to : TE) : TE := fun σ H Q => to σ H fun x H1 => tyV K T x H1 ∧ r x [] H1 Q
noncomputable def tBM (K : PySem.W.Frag) (T : String) (r : V → List V → Hp → VK → Prop) (to : TE) (t : TA) : TE := fun σ H Q => to σ H fun x H1 => tyV K T x H1 ∧ t σ H1 fun xs H2 => r x xs H2 Q
variable {o e : Expr} {es : List Expr} {to : TE} {t : TA} {name : Str} {apos cpos : Pos} {T id : String} {r : V → List V → Hp → VK → Prop}
theorem pe_bm0 (pa : PlainAttrs T) (slot : Slot T name id) (hty : typeOf (.builtin id) = pure (.type "method_descriptor")) (hm : MtR X id r) (ho : PE X o to)
    (hbase : attributeBase o name X.env (eval o X.env) = eval o X.env := by rfl) (hline : (apos.endLine == cpos.line) = true := by rfl) : PE X (.Call (.Attribute o name apos) [] [] cpos) (tBM0 X.K T r to) := by
  intro pins s σ H Q I h
  refine wpAny_Call_method0_late hbase hline (thn (ho pins s σ H _ I h) fun v s1 ⟨x, H1, I1, r1, ty, q1⟩ => ?_)
  obtain ⟨h1, h2⟩ := tyV_is I1 r1 ty
  exact ⟨T, id, pa, slot, hty, h1, h2, Calls.callWith_builtin rfl (PySem.evalArgs_none (hm pins s1 σ H1 x [] v [] Q I1 r1 .nil q1))⟩
theorem pe_bm (pa : PlainAttrs T) (slot : Slot T name id) (hty : typeOf (.builtin id) = pure (.type "method_descriptor")) (hm : MtR X id r) (ho : PE X o to) (ha : PA X (e :: es) t)
    (hbase : attributeBase o name X.env (eval o X.env) = eval o X.env := by rfl)
    (hfew : ((backTo cpos (starEach (e :: es) X.env)).all (fun x => !x.1) && (backToKw cpos (keywordEach [] X.env)).all (fun x => x.1.isSome)
      && decide ((e :: es).length + ([] : List Keyword).length + (if ([] : List Keyword).isEmpty then 0 else 1) < 30)) = true := by rfl)
    (hline : (apos.endLine == cpos.line) = true := by rfl) (hs : starEach (e :: es) X.env = (false, eval e X.env) :: starEach es X.env := by rfl) (hplain : (backTo cpos (starEach es X.env)).any (·.1) = false := by rfl) :
    PE X (.Call (.Attribute o name apos) (e :: es) [] cpos) (tBM X.K T r to t) := by
  intro pins s σ H Q I h
  refine wpAny_Call_method_late hbase hfew hline rfl (thn (ho pins s σ H _ I h) fun v s1 ⟨x, H1, I1, r1, ty, q1⟩ => ?_)
  obtain ⟨h1, h2⟩ := tyV_is I1 r1 ty
  refine ⟨T, id, pa, slot, hty, h1, h2, ?_⟩
  have hA := ha cpos pins s1 σ H1 _ I1 q1
  rw [hs] at hA ⊢
  refine Calls.callWith_builtin (by show (false || (backTo cpos (starEach es X.env)).any (·.1)) = false; rw [hplain] <;> rfl) (Calls.evalArgs_plain ?_)
  exact thn hA fun us s2 ⟨vs, H2, I2, r2, q2⟩ => hm pins s2 σ H2 x vs v us Q I2 r1 r2 q2
end
end L2
namespace L2
open PySem PySem.Spec PyProof.Rows
noncomputable def MtM (X : Cx) (id : String) (r : V → List V → Hp → VK → Prop) : Prop :=
  ∀ (pins : List (Addr × Obj)) (s : Shared) (σ : St) (H : Hp) (x : V) (xs : List V) (v : Value) (us : List Value) (Q : VK), Inv X pins σ H s → RelV x v → Vals xs us → r x xs H Q →
    wpAny (model X.prog X.w) X.A (call (.builtin id) (v :: us)) (EP X pins σ Q) X.xe s
theorem Vals.one : ∀ {x : V} {us : List Value}, Vals [x] us → ∃ u, us = [u] ∧ RelV x u
  | _, _, .cons r .nil => ⟨_, rfl, r⟩
theorem Vals.zero : ∀ {us : List Value}, Vals [] us → us = []
  | _, .nil => rfl
theorem Vals.dropLast {xs : List V} {us : List Value} (h : Vals xs us) : Vals xs.dropLast us.dropLast := by
  induction h with
  | nil => exact .nil
  | cons r t ih =>
    cases t with
    | nil => exact .nil
    | cons q t' => exact .cons r ih
theorem Vals.rep {xs : List V} {us : List Value} (h : Vals xs us) : ∀ k : Nat, Vals (List.replicate k xs).flatten (List.replicate k us).flatten
  | 0 => .nil
  | k + 1 => by
    rw [List.replicate_succ, List.replicate_succ, List.flatten_cons, List.flatten_cons]
    exact Vals.append h (Vals.rep h k)
theorem erase_last {α : Type} (l : List α) : l.eraseIdx (l.length - 1) = l.dropLast := by
  induction l with
  | nil => rfl
  | cons a r ih =>
    cases r with
    | nil => rfl
    | cons b r =>
      have e : (a :: b :: r).length - 1 = ((b :: r).length - 1) + 1 := by
        have h1 : (a :: b :: r).length = r.length + 2 := rfl
        have h2 : (b :: r).length = r.length + 1 := rfl
        omega
      rw [e, List.eraseIdx_cons_succ, ih]
      all_goals rfl
theorem foldl_rep (its : List Value) : ∀ (k : Nat) (acc : List Value),
    List.foldl (fun x1 x2 => x1 ++ x2) acc.toArray (List.replicate k its.toArray) = (acc ++ (List.replicate k its).flatten).toArray
  | 0, acc => by simp
  | k + 1, acc => by
    have e : acc.toArray ++ its.toArray = (acc ++ its).toArray := by simp
    have e2 : (acc ++ its) ++ (List.replicate k its).flatten = acc ++ (List.replicate (k + 1) its).flatten := by
      rw [List.replicate_succ, List.flatten_cons, List.append_assoc]
    rw [← e2, ← foldl_rep its k (acc ++ its), ← e, List.replicate_succ, List.foldl_cons]
section
variable {X : Cx} {pins : List (Addr × Obj)} {σ : St} {H : Hp} {s : Shared} {l b : Addr} {xs ys zs : List V}
theorem Inv.lset {its its' : List Value} {n : Nat} {f : Array Value → Array Value} {t' : Nat} (I : Inv X pins σ H s) (hH : H l = some (.lst xs))
    (e : s.heap.get? l = some { cls := .type "list", data := .seq its.toArray n }) (hf : f its.toArray = its'.toArray) (hv : Vals ys its') (hz : ys.length ≤ sizeLine) :
    Inv X pins σ (upd H l (.lst ys)) { s with heap := s.heap.update l (Obj.mapSeq f), toks := t' } := by
  have q := PySem.IsL.update e f
  rw [hf] at q
  refine I.write (x := l) (e := l) (by rw [hH]; exact trivial) (.inl rfl) (fun b' u hb hu => (Heap.get?_update_other s.heap (Obj.mapSeq f) (Ne.symm hb)).trans hu) ⟨_, q⟩ ?_
  exact ⟨hz, its', _, hv, q⟩
theorem Inv.lnew {its : List Value} {t' : Nat} (I : Inv X pins σ H s) (hv : Vals ys its) (hz : ys.length ≤ sizeLine) :
    Inv X pins σ (upd H s.heap.objs.size (.lst ys)) { s with heap := s.heap.push { cls := .type "list", data := .seq its.toArray }, toks := t' } :=
  I.laid (fun _ _ q => Heap.get?_push_of_some _ q) (Nat.le_refl _) ⟨hz, its, 0, hv, Heap.get?_push_size _ rfl⟩
theorem Inv.fresh (I : Inv X pins σ H s) : H s.heap.objs.size = none := I.hok.fresh (Nat.le_refl _)
theorem Inv.lstM (I : Inv X pins σ H s) (hH : H l = some (.lst xs)) : xs.length ≤ sizeLine ∧ ∃ (its : List Value) (n : Nat), Vals xs its ∧ xs.length = its.length ∧ s.heap.get? l = some { cls := .type "list", data := .seq its.toArray n } := by
  obtain ⟨z, its, n, r, e⟩ := I.hok l _ hH
  exact ⟨z, its, n, r, r.length, e⟩
theorem notLongL {n : Nat} (h : n ≤ sizeLine) : Builtin.List.listTooLong n = false := by
  unfold Builtin.List.listTooLong
  exact decide_eq_false (by omega)
end
section
variable {X : Cx}
noncomputable def rAppend : V → List V → Hp → VK → Prop := fun x vs H Q => ∃ l xs y, x = .ref l ∧ vs = [y] ∧ H l = some (.lst xs) ∧ xs.length < sizeLine ∧ Q .non (upd H l (.lst (xs ++ [y])))
theorem mt_append : MtM X "list.append" rAppend := by
  intro pins s σ H x vs v us Q I rx rv h
  obtain ⟨l, xs, y, rfl, rfl, hH, hz, q⟩ := h
  cases rx
  obtain ⟨u, rfl, ru⟩ := rv.one
  obtain ⟨z, its, n, r, hl, e⟩ := I.lstM hH
  refine call_meets F.slot_list_append ⟨_, e, rfl⟩ F.entry_list_append (F.args_list_append_2 _ _) (PySem.list_append l its.toArray n u (by rw [List.size_toArray]; omega)) ⟨e, ?_⟩
  refine ⟨.non, _, I.lset (its' := its ++ [u]) hH e (by simp) (r.append (.cons ru .nil)) ?_, rfl, q⟩
  rw [List.length_append, List.length_singleton]
  omega
noncomputable def rExtend : V → List V → Hp → VK → Prop := fun x vs H Q => ∃ l b xs zs, x = .ref l ∧ vs = [.ref b] ∧ H l = some (.lst xs) ∧ H b = some (.lst zs) ∧ xs.length + zs.length ≤ sizeLine ∧ Q .non (upd H l (.lst (xs ++ zs)))
theorem mt_extend : MtM X "list.extend" rExtend := by
  intro pins s σ H x vs v us Q I rx rv h
  obtain ⟨l, b, xs, zs, rfl, rfl, hH, hB, hz, q⟩ := h
  cases rx
  obtain ⟨u, rfl, ru⟩ := rv.one
  cases ru
  obtain ⟨z, its, n, r, hl, e⟩ := I.lstM hH
  obtain ⟨z2, its2, n2, r2, hl2, e2⟩ := I.lstM hB
  have hsz : its.toArray.size + its2.toArray.size ≤ sizeLine := by rw [List.size_toArray, List.size_toArray]; omega
  have hlong : ¬ (!its.toArray.isEmpty && Builtin.List.listTooLong (its.toArray.size + its2.toArray.size)) = true := by
    rw [notLongL hsz, Bool.and_false]
    exact Bool.false_ne_true
  refine call_meets F.slot_list_extend ⟨_, e, rfl⟩ F.entry_list_extend (F.args_list_extend_2 _ _)
    (AutoSeq1.list_extend_list_list_0 l its.toArray n b its2.toArray n2 hlong (by rw [List.size_toArray]; omega) (by omega)) ⟨e, e2, ?_⟩
  refine ⟨.non, _, I.lset (its' := its ++ its2) hH e (by simp) (r.append r2) ?_, rfl, q⟩
  rw [List.length_append]
  omega
noncomputable def rPop : V → List V → Hp → VK → Prop := fun x vs H Q => ∃ l xs y, x = .ref l ∧ vs = [] ∧ H l = some (.lst xs) ∧ xs[xs.length - 1]? = some y ∧ Q y (upd H l (.lst xs.dropLast))
theorem mt_pop : MtM X "list.pop" rPop := by
  intro pins s σ H x vs v us Q I rx rv h
  obtain ⟨l, xs, y, rfl, rfl, hH, hy, q⟩ := h
  cases rx
  have hus := rv.zero
  subst hus
  obtain ⟨z, its, n, r, hl, e⟩ := I.lstM hH
  obtain ⟨u, hu, ru⟩ := r.get hy
  have hy' : its.toArray[its.toArray.size - 1]? = some u := by
    show its.toArray[its.length - 1]? = some u
    rw [← Array.getElem?_toList, ← hl]
    exact hu
  refine call_meets F.slot_list_pop ⟨_, e, rfl⟩ F.entry_list_pop (F.args_list_pop_1 _) (MeetsSeq.list_pop_last l its.toArray n u hy' (by rw [List.size_toArray]; omega)) ⟨e, ?_⟩
  refine ⟨y, _, I.lset (its' := its.dropLast) hH e ?_ r.dropLast ?_, ru, q⟩
  · show its.toArray.eraseIdxIfInBounds (its.toArray.size - 1) = its.dropLast.toArray
    rw [List.size_toArray, List.eraseIdxIfInBounds_toArray, erase_last]
  · rw [List.length_dropLast]
    omega
noncomputable def rRep : R2 := fun x y H Q => ∃ l k xs, x = .ref l ∧ y = .int k ∧ H l = some (.lst xs) ∧ -(2 ^ 63) ≤ k ∧ k < 2 ^ 63 ∧ xs.length * k.toNat ≤ sizeLine ∧
  ∀ p, H p = none → Q (.ref p) (upd H p (.lst (List.replicate k.toNat xs).flatten))
theorem len_rep {α : Type} (xs : List α) (k : Nat) : (List.replicate k xs).flatten.length = k * xs.length := by
  induction k with
  | zero => simp
  | succ k ih => rw [List.replicate_succ, List.flatten_cons, List.length_append, ih, Nat.succ_mul, Nat.add_comm]
theorem op_rep : OpR X (binaryOp .Mult) rRep := by
  intro pins s σ H x y v u Q I rx ry h
  obtain ⟨l, k, xs, rfl, rfl, hH, h1, h2, hz, q⟩ := h
  cases rx
  obtain ⟨t, rfl⟩ := ry
  obtain ⟨z, its, n, r, hl, e⟩ := I.lstM hH
  have hlen : its.toArray.size * k.toNat ≤ sizeLine := by rw [List.size_toArray, ← hl]; exact hz
  have hcap : ¬ its.toArray.size * k.toNat > (2 ^ 63 - 1) / 8 := by
    have : (sizeLine : Nat) ≤ (2 ^ 63 - 1) / 8 := by decide
    omega
  have hfit : ¬ (!Builtin.List.listFitsIndex k) = true := by
    rw [fitsIndex_both h1 h2]
    exact Bool.false_ne_true
  have hlong : ¬ Builtin.List.listTooLong (its.toArray.size * k.toNat) = true := by
    rw [notLongL hlen]
    exact Bool.false_ne_true
  have hnew : List.foldl (fun x1 x2 => x1 ++ x2) #[] (List.replicate (if its.toArray.isEmpty = true then 0 else k.toNat) its.toArray) = (List.replicate k.toNat its).flatten.toArray := by
    have f0 : ∀ m : Nat, List.foldl (fun x1 x2 => x1 ++ x2) #[] (List.replicate m its.toArray) = (List.replicate m its).flatten.toArray := fun m => by
      have := foldl_rep its m []
      rw [List.nil_append] at this
      exact this
    rw [f0]
    cases its with
    | nil => simp
    | cons a r' => rw [if_neg (by simp)]
  refine wpAny_binaryOp_repeat_ref (T := "list") (U := "int") (by decide) ⟨_, e, rfl⟩ (fun s' => typeIs_int s' k t) noFill_list_mul F.fills_int_mul F.slot_int_rmul repeat_list F.slot_int_index.lookup
    (call_meets F.slot_int_rmul (typeIs_int s k t) F.entry_int_rmul (F.args_int_rmul_2 _ _) (int___rmul___int_list k t l its.toArray n)
      ⟨e, rfl, ⟨_, e, rfl⟩, call_meets F.slot_list_mul ⟨_, e, rfl⟩ F.entry_list_mul (F.args_list_mul_2 _ _) (AutoListH.list___mul___list_int_3 l its.toArray n k t hfit hcap hlong) ⟨e, ?_⟩⟩)
  rw [hnew]
  exact ⟨.ref _, _, I.lnew (t' := s.toks) (r.rep k.toNat) (by rw [len_rep, Nat.mul_comm]; exact hz), rfl, q _ I.fresh⟩
end
section
variable {prog : Program} {w : World} {A : Around} {E : Value → Shared → Prop} {s : Shared}
end
section
variable {X : Cx}
end
end L2
namespace Att
open PySem PySem.W PySem.Calls PyProof.Rows
theorem ints_of_wellAll {P : Params} {h : Heap} : ∀ (ns : List Int) (vs : List Value), WellAll P h vs (ns.map WData.int) → IntsAre vs ns := by
  intro ns
  induction ns with
  | nil =>
    intro vs w
    rw [List.map_nil] at w
    cases w
    exact .nil
  | cons n ns ih =>
    intro vs w
    rw [List.map_cons] at w
    cases w with
    | cons a b =>
      cases a
      exact .cons _ _ (ih _ b)
theorem script_of {l : OpenLaw} {n : Nat} (hn : l.most = some n) {P : Params} {h : Heap} {args : List WData} {vals : List Value}
    (hpre : l.row.toRowW.claim.pre args = true) (hwl : WellAll P h vals args) :
    ∃ a vs ns, vals = [Value.ref a] ∧ args = [WData.list (ns.map WData.int)] ∧ h.get? a = some { cls := .type "list", data := .seq vs.toArray } ∧ IntsAre vs ns ∧ ns.length ≤ n := by
  have hsh : WShape.hasAll [] args [.list .int] = true := (pre_splitW hpre).1
  have hc : l.pre.holds [] { args := args } = true := (pre_splitW hpre).2
  obtain ⟨d, r, rfl, h1, h2⟩ := hasAllW_cons hsh
  obtain rfl := hasAllW_nil h2
  obtain ⟨xs, rfl, h3⟩ := hasW_list h1
  obtain ⟨ns, rfl⟩ := items_int h3
  have hlen : ns.length ≤ n := by
    unfold OpenLaw.pre at hc
    have h4 : (WTm.not (.lt (.lit (.int (n : Int))) (.len (.arg 0)))).holds [] { args := [.list (ns.map .int)] } = true := by
      have h4 := (holds_andW hc).1
      rw [hn] at h4
      exact h4
    have h5 := condW_of h4 (w_not (w_lt w_lit (w_len_list (w_arg rfl))))
    rw [List.length_map] at h5
    refine Nat.le_of_not_lt fun q => ?_
    have q' : (n : Int) < ((ns.length : Nat) : Int) := by omega
    first
      | (rw [decide_eq_true q'] at h5; exact absurd h5 (by decide))
      | (simp at h5; omega)
  cases hwl with
  | cons w1 w2 =>
    cases w2
    cases w1 with
    | list ho hall => exact ⟨_, _, ns, rfl, rfl, ho, ints_of_wellAll ns _ hall, hlen⟩
theorem post_true (l : OpenLaw) (args : List WData) : l.row.toRowW.claim.post args (.bool true) args = true :=
  postW_of (r := l.row.toRowW) (X := (true == true))
    (show WShape.has [] (.bool true) .bool = true by first | rfl | decide | simp [WShape.has, WShape.arms, WShape.armsAll])
    (show (WTm.eq .res (.lit (.bool true))).value [] { args := args, res := some (.bool true), after := args } = some (.bool (true == true)) from w_eq_bool (w_res rfl) w_lit) rfl
theorem attach_call {l : OpenLaw} {n : Nat} {q : Program} {loose : List Str} {XP : (Str → Option Value) → Heap → Prop} {YP : World → Heap → Prop} {d : DefRec}
    (hn : l.most = some n) (hdf : d.params.defaults = [])
    (call : ∀ (w : World) (s₀ s₁ : Shared) (mg mb : Str → Option Value) (fa : Addr) (o : Obj) (pm cd doc : Value) (a : Addr) (vs : List Value) (ns : List Int),
      Ground q loose [] XP w s₀ mg mb s₁.heap → YP w s₁.heap →
      s₁.heap.get? fa = some o → o.data = .func (docDef d.name d.params d.body d.scope pm cd doc) → s₁.heap.CodeRec cd d.name → mg d.name = some (.ref fa) →
      s₁.heap.get? a = some { cls := .type "list", data := .seq vs.toArray } → IntsAre vs ns → ns.length ≤ n → s₁.gens = #[] →
      codeAny (model l.prog w) callerA (.call (.ref fa) ⟨[.ref a], []⟩) (fun r s' => r = .ok (.ret (.bool true)) ∧ OldK s₁.heap s'.heap ∧ s'.os = s₁.os ∧ AllBare s'.gens) s₁) :
    WalkO q loose XP YP l.row.toRowW d [] (fun f vs => PySem.call f vs) := by
  intro w s₀ s₁ mg mb G Y fa o pm cd doc dV kV ho hd hcd hD hmg hg args vals as hpre hlay hrd hwl hlo
  obtain rfl : dV = .none := Dflts.none hD hdf
  obtain rfl : kV = .none := Dflts.noKw hD
  obtain ⟨a, vs, ns, rfl, rfl, hobj, hints, hlen⟩ := script_of hn hpre hwl
  refine enter_call (codeAny_mono (call w s₀ s₁ mg mb fa o pm cd doc a vs ns G Y ho (fd_plain hd) hcd hmg hobj hints hlen hg) fun r s' hq => ?_)
  obtain ⟨rfl, h2, h3, h4⟩ := hq
  exact ⟨.inl ⟨.bool true, .bool true, [], rfl, fun _ => rfl, .bool true, post_true l _, fun _ => ⟨List.Pairwise.nil, fun _ hm => (nomatch hm)⟩⟩, h2, h3, h4⟩
section
variable {prog : Program} {w : World} {A : Around} {E : Value → Shared → Prop} {s : Shared} {K : Frag}
end
end Att
namespace L2
open PySem PySem.Spec PyProof.Rows
theorem vals_ints : ∀ {vs : List Value} {ns : List Int}, IntsAre vs ns → Vals (ns.map V.int) vs
  | _, _, .nil => .nil
  | _, _, .cons n t h => .cons ⟨t, rfl⟩ (vals_ints h)
end L2
namespace L2
open PySem PySem.Spec PyProof.Rows
end L2
namespace L2
open PySem PySem.Spec PyProof.Rows
noncomputable def defArgs (s : Stmt) : Arguments := match s with
  | .FunctionDef _ a _ _ _ _ _ _ _ _ => a
  | _ => { posonlyargs := [], args := [], vararg := none, kwonlyargs := [], kw_defaults := [], kwarg := none, defaults := [] }
noncomputable def defBody (s : Stmt) : List Stmt := match s with
  | .FunctionDef _ _ b _ _ _ _ _ _ _ => b
  | _ => []
noncomputable def defScope (s : Stmt) : Scope := match s with
  | .FunctionDef _ _ _ _ _ _ sc _ _ _ => sc
  | _ => { kind := .function, names := [], isGenerator := false, isCoroutine := false }
noncomputable abbrev CX0 : CXT := fun _ _ _ _ _ _ => False
noncomputable abbrev E0 : XK := fun _ _ _ => False
theorem pass0 {X : Cx} : Passes CX0 X E0 := fun _ _ _ _ _ _ _ h => h.elim
structure Fun (K : PySem.W.Frag) (x qual : Str) (st : Stmt) (f : Addr) (fd : FuncData) : Prop where
  ex : ∃ (oc : Value) (od : Option Addr) (kV doc pm : Value) (an : Option Addr) (cdv ct : Value) (osl : Array (Option Value)),
    fd = PySem.W.fnOf x qual (defArgs st) (defBody st) (defScope st) .none kV doc pm an cdv ct ∧ K.lookup f = some ⟨oc, od, .func fd, osl⟩ ∧ PySem.W.codeIn K cdv qual = true
  kp : PySem.W.keepIn K (.ref f) = true
section
variable {P : Program} {w : World} {K : PySem.W.Frag} {mg : Str → Option Value} {base : Heap}
theorem Fun.ok {x qual : Str} {st : Stmt} {f : Addr} {fd : FuncData} {N ps : List Str} {k : Nat} {sp : Sp} (F : Fun K x qual st f fd) (S : FnScope N ps (defScope st)) (len : ∀ vs H Q E, sp vs H Q E → vs.length = ps.length)
    (hbody : ∀ (cdv : Value) (A : Around) (outer : List Env) (s : Shared) (H : Hp) (vs : List V) (Q : VK) (E : XK), Room k (A.deeper (envOfC qual (defScope st) s.heap.objs.size f cdv)) → sp vs H Q E →
      ∃ t, PSs (cxOf CX0 P w K mg base N qual (defScope st) f cdv A outer s H E).nox (defBody st) t ∧ t { nx := fun _ H' => Q .non H', rt := Q } (start N vs) H) : FnOk P w K mg base CX0 (k + 1) f fd ps sp := by
  obtain ⟨oc, od, kV, doc, pm, an, cdv, ct, osl, rfl, lk, hcd⟩ := F.ex
  refine fn_of lk hcd S len fun A outer s H vs Q E hr hsp => ?_
  obtain ⟨t, h, q⟩ := hbody cdv A outer s H vs Q E hr hsp
  exact ⟨t, h.nox, q⟩
theorem Fun.binds {x qual : Str} {st : Stmt} {f : Addr} {fd : FuncData} {ps : List Str} (F : Fun K x qual st f fd)
    (h : ∀ (kV doc pm : Value) (an : Option Addr) (cdv ct : Value) (us : List Value), us.length = ps.length → bindArgs (PySem.W.fnOf x qual (defArgs st) (defBody st) (defScope st) .none kV doc pm an cdv ct) ⟨us, []⟩ = pure (ps.zip us)) : Binds K fd ps [] := by
  obtain ⟨oc, od, kV, doc, pm, an, cdv, ct, osl, rfl, lk, hcd⟩ := F.ex
  exact .all (h kV doc pm an cdv ct)
theorem fun_mk {x qual : Str} {st : Stmt} {f : Addr} {oc : Value} {od an : Option Addr} {osl : Array (Option Value)} {kV doc pm cdv ct : Value} (l : K.lookup f = some ⟨oc, od, .func (PySem.W.fnOf x qual (defArgs st) (defBody st) (defScope st) .none kV doc pm an cdv ct), osl⟩)
    (c : PySem.W.codeIn K cdv qual = true) (k : PySem.W.keepIn K (.ref f) = true) : Fun K x qual st f (PySem.W.fnOf x qual (defArgs st) (defBody st) (defScope st) .none kV doc pm an cdv ct) := ⟨⟨oc, od, kV, doc, pm, an, cdv, ct, osl, rfl, l, c⟩, k⟩
end
section
variable {X : Cx}
theorem pv (i : Nat) {x : Str} {pos : Pos} (hN : X.N[i]? = some x := by rfl) (hv : Vis X.env.scope x := by first | exact Or.inl rfl | exact Or.inr (Or.inl rfl) | exact Or.inr (Or.inr rfl)) (hd : (x == ("__debug__" : Str)) = false := by decide)
    (hcd : (x == ("__classdict__" : Str)) = false := by decide) : PE X (.Name x pos) (tVar i) := pe_var hN hv hd hcd
end
theorem iteF {A B : Prop} (h : B) : if false = true then A else B := by
  rw [if_neg Bool.false_ne_true]
  exact h
theorem iteT {A B : Prop} (h : A) : if true = true then A else B := by
  rw [if_pos rfl]
  exact h
noncomputable def Same (H H' : Hp) : Prop := ∀ b o, H b = some o → H' b = some o
theorem Same.refl (H : Hp) : Same H H := fun _ _ h => h
theorem Same.trans {H H1 H2 : Hp} (a : Same H H1) (b : Same H1 H2) : Same H H2 := fun c o h => b c o (a c o h)
theorem Same.free {H H' : Hp} (e : Same H H') {l : Addr} (h : H' l = Option.none) : H l = Option.none := by
  cases q : H l with
  | none => rfl
  | some o =>
    rw [e l o q] at h
    cases h
theorem Same.seq {K : PySem.W.Frag} {H H' : Hp} {a : Addr} {xs : List V} (e : Same H H') (h : SqL K H a xs) : SqL K H' a xs := by
  rcases h with (h | ⟨o, h⟩) | h
  · exact .inl (.inl (e _ _ h))
  · exact .inl (.inr ⟨o, e _ _ h⟩)
  · exact .inr h
end L2
namespace L2
open PySem PySem.Spec PyProof.Rows
section
variable {κ : Type} [DecidableEq κ]
noncomputable def valV (kvs : List (κ × V)) (k : κ) : Option V := (kvs.find? fun kv => decide (kv.1 = k)).map (·.2)
noncomputable def putK (kvs : List (κ × V)) (k : κ) (v : V) : List (κ × V) :=
  if (kvs.any fun kv => decide (kv.1 = k)) = true then kvs.map (fun kv => if kv.1 = k then (kv.1, v) else kv) else kvs ++ [(k, v)]
theorem valV_pos {p : κ × V} {r : List (κ × V)} {k : κ} (e : p.1 = k) : valV (p :: r) k = some p.2 := by simp [valV, List.find?_cons, e]
theorem valV_neg {p : κ × V} {r : List (κ × V)} {k : κ} (e : ¬ p.1 = k) : valV (p :: r) k = valV r k := by simp [valV, List.find?_cons, e]
theorem valV_any (k : κ) : ∀ kvs : List (κ × V), (kvs.any fun kv => decide (kv.1 = k)) = (valV kvs k).isSome
  | [] => rfl
  | p :: r => by
    rw [List.any_cons]
    by_cases e : p.1 = k
    · simp only [valV_pos e, decide_eq_true e, Bool.true_or, Option.isSome_some]
    · rw [valV_neg e, decide_eq_false e, Bool.false_or]; exact valV_any k r
theorem valV_map (k j : κ) (y : V) : ∀ kvs : List (κ × V), valV (kvs.map fun kv => if kv.1 = k then (kv.1, y) else kv) j = (valV kvs j).map fun x => if j = k then y else x
  | [] => rfl
  | p :: r => by
    have ih := valV_map k j y r
    rw [List.map_cons]
    by_cases h : p.1 = k
    · rw [if_pos h]
      by_cases e : p.1 = j
      · rw [valV_pos (p := (p.1, y)) e, valV_pos e, Option.map_some, if_pos (e.symm.trans h)]
      · rw [valV_neg (p := (p.1, y)) e, valV_neg e, ih]
    · rw [if_neg h]
      by_cases e : p.1 = j
      · rw [valV_pos (p := p) e, valV_pos e, Option.map_some, if_neg (fun z => h (e.trans z))]
      · rw [valV_neg (p := p) e, valV_neg e, ih]
theorem valV_snoc (k j : κ) (y : V) : ∀ kvs : List (κ × V), valV kvs k = none → valV (kvs ++ [(k, y)]) j = if j = k then some y else valV kvs j
  | [], _ => by
    by_cases e : k = j
    · rw [if_pos e.symm]; exact valV_pos (p := (k, y)) e
    · rw [if_neg (fun z => e z.symm)]; exact valV_neg (p := (k, y)) e
  | p :: r, hn => by
    rw [List.cons_append]
    have hk : ¬ p.1 = k := fun z => by rw [valV_pos z] at hn; cases hn
    rw [valV_neg hk] at hn
    have ih := valV_snoc k j y r hn
    by_cases e : p.1 = j
    · rw [valV_pos e, valV_pos e, if_neg (fun z => hk (e.trans z))]
    · rw [valV_neg e, valV_neg e, ih]
theorem valV_put (kvs : List (κ × V)) (k j : κ) (y : V) : valV (putK kvs k y) j = if j = k then some y else valV kvs j := by
  unfold putK
  by_cases a : (kvs.any fun kv => decide (kv.1 = k)) = true
  · rw [if_pos a, valV_map]
    rw [valV_any] at a
    by_cases e : j = k
    · obtain ⟨x, hx⟩ := Option.isSome_iff_exists.mp a
      rw [if_pos e, e, hx, Option.map_some, if_pos rfl]
    · rw [if_neg e]
      cases valV kvs j with
      | none => rfl
      | some x => rw [Option.map_some, if_neg e]
  · rw [if_neg a]
    refine valV_snoc k j y kvs ?_
    rw [valV_any] at a
    cases q : valV kvs k with
    | none => rfl
    | some x => rw [q] at a; exact (a rfl).elim
theorem length_putK (kvs : List (κ × V)) (k : κ) (v : V) : (putK kvs k v).length ≤ kvs.length + 1 := by
  unfold putK
  split
  · rw [List.length_map]; omega
  · rw [List.length_append, List.length_cons, List.length_nil]; omega
theorem RelO.isSome_eq {o : Option V} {u : Option Value} (r : RelO o u) : o.isSome = u.isSome := by
  cases o with
  | none => cases u with
    | none => rfl
    | some _ => exact (show False from r).elim
  | some _ => cases u with
    | none => exact (show False from r).elim
    | some _ => rfl
theorem KV.val {kvs : List (κ × V)} {vs : List (κ × Value)} (r : KV kvs vs) (k : κ) : RelO (valV kvs k) (valueAt vs k) := by
  unfold KV at r
  induction r with
  | nil => exact True.intro
  | @cons p q ps qs h t ih =>
    obtain ⟨h1, h2⟩ := h
    by_cases e : p.1 = k
    · have e' : q.1 = k := h1.symm.trans e
      have b : valueAt (q :: qs) k = some q.2 := by simp [valueAt, List.find?_cons, e']
      rw [valV_pos e, b]; exact h2
    · have e' : ¬ q.1 = k := fun z => e (h1.trans z)
      have b : valueAt (q :: qs) k = valueAt qs k := by simp [valueAt, List.find?_cons, e']
      rw [valV_neg e, b]; exact ih
theorem KV.any {kvs : List (κ × V)} {vs : List (κ × Value)} (r : KV kvs vs) (k : κ) : (kvs.any fun kv => decide (kv.1 = k)) = vs.any fun kv => decide (kv.1 = k) := by
  unfold KV at r
  induction r with
  | nil => rfl
  | cons h t ih => rw [List.any_cons, List.any_cons, ih, h.1]
theorem KV.repl {kvs : List (κ × V)} {vs : List (κ × Value)} (r : KV kvs vs) (k : κ) {y : V} {u : Value} (ry : RelV y u) :
    KV (kvs.map fun kv => if kv.1 = k then (kv.1, y) else kv) (vs.map fun kv => if kv.1 = k then (kv.1, u) else kv) := by
  unfold KV at r ⊢
  induction r with
  | nil => exact .nil
  | @cons p q ps qs h t ih =>
    rw [List.map_cons, List.map_cons]
    refine .cons ?_ ih
    obtain ⟨h1, h2⟩ := h
    by_cases e : p.1 = k
    · rw [if_pos e, if_pos (h1.symm.trans e)]; exact ⟨h1, ry⟩
    · rw [if_neg e, if_neg (fun z => e (h1.trans z))]; exact ⟨h1, h2⟩
theorem KV.put {kvs : List (κ × V)} {vs : List (κ × Value)} (r : KV kvs vs) (k : κ) {y : V} {u : Value} (ry : RelV y u) : KV (putK kvs k y) (stored vs k u) := by
  unfold putK stored
  rw [r.any k]
  by_cases e : (vs.any fun kv => decide (kv.1 = k)) = true
  · rw [if_pos e, if_pos e]; exact r.repl k ry
  · rw [if_neg e, if_neg e]; exact Paired.snoc r ⟨rfl, ry⟩
theorem KV.length {kvs : List (κ × V)} {vs : List (κ × Value)} (r : KV kvs vs) : kvs.length = vs.length := Paired.length r
end
theorem kV_is {P : Program} {w : World} {k : Key} {u : Value} (r : RelV (kV k) u) : (mixKind P w).is k u = true := by
  cases k with
  | inl i => obtain ⟨t, e⟩ := (show ∃ t, u = Value.int i t from r); subst e; exact mixKind_int P w i t
  | inr x => obtain ⟨t, e⟩ := (show ∃ t, u = Value.str x t from r); subst e; exact mixKind_str P w x t
theorem items_are {P : Program} {w : World} : ∀ {ks : List Key} {us : List Value}, Vals (ks.map kV) us → ItemsAre (mixKind P w) ks us
  | [], _, r => by rw [List.map_nil] at r; cases r; exact .nil
  | k :: ks, _, r => by
    rw [List.map_cons] at r
    cases r with
    | cons h t => exact .cons (kV_is h) (items_are t)
noncomputable abbrev KT (H : Hp) : List (List Key × V) → List (List Key × Addr × Value) → Prop := Paired fun p q => p.1 = q.1 ∧ H q.2.1 = some (.tup (p.1.map kV)) ∧ RelV p.2 q.2.2
theorem KT.val {H : Hp} {kvs : List (List Key × V)} {xs : List (List Key × Addr × Value)} (r : KT H kvs xs) (k : List Key) : RelO (valV kvs k) ((atKey xs k).map (·.2)) := by
  induction r with
  | nil => exact True.intro
  | @cons p q ps qs h t ih =>
    obtain ⟨h1, _, h2⟩ := h
    by_cases e : p.1 = k
    · have e' : q.1 = k := h1.symm.trans e
      have b : atKey (q :: qs) k = some q.2 := by simp [atKey, List.find?_cons, e']
      rw [valV_pos e, b]; exact h2
    · have e' : ¬ q.1 = k := fun z => e (h1.trans z)
      have b : atKey (q :: qs) k = atKey qs k := by simp [atKey, List.find?_cons, e']
      rw [valV_neg e, b]; exact ih
theorem KT.repl {H : Hp} {kvs : List (List Key × V)} {xs : List (List Key × Addr × Value)} (r : KT H kvs xs) (k : List Key) {y : V} {u : Value} (ry : RelV y u) :
    KT H (kvs.map fun kv => if kv.1 = k then (kv.1, y) else kv) (xs.map (putAt k u)) := by
  induction r with
  | nil => exact .nil
  | @cons p q ps qs h t ih =>
    rw [List.map_cons, List.map_cons]
    refine .cons ?_ ih
    obtain ⟨h1, h2, h3⟩ := h
    unfold putAt
    by_cases e : p.1 = k
    · rw [if_pos e, if_pos (h1.symm.trans e)]; exact ⟨h1, h2, ry⟩
    · rw [if_neg e, if_neg (fun z => e (h1.trans z))]; exact ⟨h1, h2, h3⟩
theorem KT.put {H : Hp} {kvs : List (List Key × V)} {xs : List (List Key × Addr × Value)} (r : KT H kvs xs) (k : List Key) {b : Addr} {y : V} {u : Value} (hb : H b = some (.tup (k.map kV))) (ry : RelV y u) :
    KT H (putK kvs k y) (storedH xs k b u) := by
  have e : (kvs.any fun kv => decide (kv.1 = k)) = (atKey xs k).isSome := by
    rw [valV_any, (r.val k).isSome_eq, Option.isSome_map]
  unfold putK storedH
  rw [e]
  by_cases q : (atKey xs k).isSome = true
  · rw [if_pos q, if_pos q]; exact r.repl k ry
  · rw [if_neg q, if_neg q]; exact Paired.snoc r ⟨rfl, hb, ry⟩
theorem KT.keeps {H H' : Hp} {kvs : List (List Key × V)} {xs : List (List Key × Addr × Value)} (r : KT H kvs xs) (ht : ∀ b ys, H b = some (.tup ys) → H' b = some (.tup ys)) : KT H' kvs xs :=
  Paired.mapP r fun _ _ z => ⟨z.1, ht _ _ z.2.1, z.2.2⟩
section
variable {P : Program} {w : World} {H : Hp} {h : Heap} {a : Addr}
theorem rd_of {u : HO} (ok : HOk P w H h) (e : Rd H a u) : ObjOk P w H h a u := e.ok ok
theorem dk_rd {kvs : List (Key × V)} (ok : HOk P w H h) (e : Rd H a (.dK kvs)) : kvs.length ≤ sizeLine ∧ (a == sysModules) = false ∧ ∃ vs, KV kvs vs ∧ h.DictOf (mixKind P w) a vs :=
  show ObjOk P w H h a (.dK kvs) from rd_of ok e
theorem dk_of {kvs : List (Key × V)} (ok : HOk P w H h) (e : H a = some (.dK kvs)) : kvs.length ≤ sizeLine ∧ (a == sysModules) = false ∧ ∃ vs, KV kvs vs ∧ h.DictOf (mixKind P w) a vs := dk_rd ok (.inl e)
theorem key_of {ks : List Key} (ok : HOk P w H h) (e : H a = some (.tup (ks.map kV))) : (tupleKind (mixKind P w)).is h ks a := by
  obtain ⟨_, its, r, o, h1, h2, n, h3⟩ := (show ObjOk P w H h a (.tup (ks.map kV)) from ok a _ e)
  exact ⟨o, its.toArray, n, h1, h2, h3, by simpa using items_are r⟩
theorem dt_rd {kvs : List (List Key × V)} (ok : HOk P w H h) (e : Rd H a (.dT kvs)) : kvs.length ≤ sizeLine ∧ (a == sysModules) = false ∧
    ∃ xs, KT H kvs xs ∧ h.DictOfH (tupleKind (mixKind P w)) a xs := by
  obtain ⟨z, y, xs, r, o, es, ep, h1, h2, h3, h4, h5⟩ := (show ObjOk P w H h a (.dT kvs) from rd_of ok e)
  refine ⟨z, y, xs, r, o, es, ep, h1, h2, h3, h4, fun x hx => ?_, h5⟩
  have all : ∀ {l : List (List Key × V)} {m : List (List Key × Addr × Value)}, KT H l m → ∀ x ∈ m, (tupleKind (mixKind P w)).is h x.1 x.2.1 := by
    intro l m q
    induction q with
    | nil => intro x hx; exact nomatch hx
    | @cons p q ps qs hq t ih =>
      intro x hx
      rcases List.mem_cons.mp hx with e | hx
      · subst e
        exact key_of ok (by rw [← hq.1]; exact hq.2.1)
      · exact ih x hx
  exact all r x hx
theorem dt_of {kvs : List (List Key × V)} (ok : HOk P w H h) (e : H a = some (.dT kvs)) : kvs.length ≤ sizeLine ∧ (a == sysModules) = false ∧
    ∃ xs, KT H kvs xs ∧ h.DictOfH (tupleKind (mixKind P w)) a xs := dt_rd ok (.inl e)
end
noncomputable def DGet (H : Hp) (a : Addr) (y : V) (r : Option V) : Prop :=
  (∃ kvs k, Rd H a (.dK kvs) ∧ y = kV k ∧ r = valV kvs k) ∨ ∃ kvs k b, Rd H a (.dT kvs) ∧ y = .ref b ∧ H b = some (.tup (k.map kV)) ∧ r = valV kvs k
noncomputable def DPut (H : Hp) (a : Addr) (y v : V) (H' : Hp) : Prop :=
  (∃ kvs k, H a = some (.dK kvs) ∧ y = kV k ∧ kvs.length < sizeLine ∧ H' = upd H a (.dK (putK kvs k v))) ∨
  ∃ kvs k b, H a = some (.dT kvs) ∧ y = .ref b ∧ H b = some (.tup (k.map kV)) ∧ kvs.length < sizeLine ∧ H' = upd H a (.dT (putK kvs k v))
theorem DGet.t {H : Hp} {a b : Addr} {kvs : List (List Key × V)} {k : List Key} (e : H a = some (.dT kvs)) (eb : H b = some (.tup (k.map kV))) : DGet H a (.ref b) (valV kvs k) := .inr ⟨kvs, k, b, .inl e, rfl, eb, rfl⟩
theorem DPut.t {H : Hp} {a b : Addr} {kvs : List (List Key × V)} {k : List Key} {v : V} (e : H a = some (.dT kvs)) (eb : H b = some (.tup (k.map kV))) (hl : kvs.length < sizeLine) :
    DPut H a (.ref b) v (upd H a (.dT (putK kvs k v))) := .inr ⟨kvs, k, b, e, rfl, eb, hl, rfl⟩
section
variable {X : Cx} {pins : List (Addr × Obj)} {σ : St} {H : Hp} {s : Shared} {a : Addr} {y v : V} {u r : Value} {o : Option V} {A : Around} {E : Value → Shared → Prop}
theorem Inv.big (I : Inv X pins σ H s) : sysModules < s.heap.objs.size := by
  have h : mainGlobals < s.heap.objs.size := (I.mod.glob.keeps I.bk).lt
  exact Nat.lt_trans (by decide) h
theorem d_getItem {Q : Value → Shared → Prop} (hu : A.units + 1 < cLine) (I : Inv X pins σ H s) (g : DGet H a y (some v)) (ry : RelV y u) (h : ∀ w' s', Inv X pins σ H s' → RelV v w' → Q w' s') :
    wpAny (model X.prog X.w) A (getItem (.ref a) u) Q E s := by
  rcases g with ⟨kvs, k, e, ey, l⟩ | ⟨kvs, k, b, e, ey, eb, l⟩
  · subst ey
    obtain ⟨z, hd, vs, rel, dd⟩ := dk_rd I.hok e
    obtain ⟨w', hw, rw'⟩ := RelO.some_of (v := v) (o := valueAt vs k) (by rw [l]; exact rel.val k)
    exact wpAny_getItem_of (kV_is ry) dd.mapOf hw (h w' _ (I.tok _) rw')
  · subst ey
    cases (show u = Value.ref b from ry)
    obtain ⟨z, hd, xs, rel, dd⟩ := dt_rd I.hok e
    obtain ⟨w', hw, rw'⟩ := RelO.some_of (v := v) (o := (atKey xs k).map (·.2)) (by rw [l]; exact rel.val k)
    obtain ⟨p, hp, hp2⟩ := Option.map_eq_some_iff.mp hw
    refine wpAny_getItem_heap (tupleKind_room_in1 hu) (key_of I.hok eb) dd hp ?_
    rw [hp2]
    exact h w' _ (I.tok _) rw'
theorem d_write {h' : Heap} {t' : Nat} {ob : HO} (I : Inv X pins σ H s) (mu : Mut (H a)) (hs : Heap.SameBut a s.heap h') (he : ∃ q, h'.get? a = some q) (new : ObjOk X.prog X.w (upd H a ob) h' a ob) :
    Inv X pins σ (upd H a ob) { s with heap := h', toks := t' } :=
  I.write (x := a) (e := a) mu (.inl rfl) (fun b q hb z => (hs.2 b hb).trans z) he new
theorem dk_new {P : Program} {w : World} {H' : Hp} {h' : Heap} {kvs : List (Key × V)} {vs : List (Key × Value)} (z : kvs.length ≤ sizeLine) (hd : (a == sysModules) = false) (rel : KV kvs vs) (dd : h'.DictOf (mixKind P w) a vs) :
    ObjOk P w H' h' a (.dK kvs) := ⟨z, hd, vs, rel, dd⟩
theorem d_setItem {H' : Hp} {Q : Unit → Shared → Prop} (hu : A.units + 1 < cLine) (I : Inv X pins σ H s) (g : DPut H a y v H') (ry : RelV y u) (rv : RelV v r) (h : ∀ s', Inv X pins σ H' s' → Q () s') :
    wpAny (model X.prog X.w) A (setItem (.ref a) u r) Q E s := by
  rcases g with ⟨kvs, k, e, ey, l, eH⟩ | ⟨kvs, k, b, e, ey, eb, l, eH⟩
  · subst ey eH
    obtain ⟨z, hd, vs, rel, dd⟩ := dk_of I.hok e
    have hz : vs.length ≤ sizeLine := by rw [← rel.length]; exact z
    have hl : (putK kvs k v).length ≤ sizeLine := by have := length_putK kvs k v; omega
    refine wpAny_setItem_pairs (hsz := hz) (kV_is ry) dd fun h' dd' hs => h _ ?_
    have he : ∃ q, h'.get? a = some q := let ⟨q, _, _, hq, _⟩ := dd'; ⟨q, hq⟩
    exact d_write I (by rw [e]; exact True.intro) hs he (dk_new hl hd (rel.put k rv) dd')
  · subst ey eH
    cases (show u = Value.ref b from ry)
    obtain ⟨z, hd, xs, rel, dd⟩ := dt_of I.hok e
    have hz : xs.length ≤ sizeLine := by rw [← Paired.length rel]; exact z
    have hl : (putK kvs k v).length ≤ sizeLine := by have := length_putK kvs k v; omega
    refine wpAny_setItem_heap (hsz := hz) (tupleKind_room_in1 hu) (key_of I.hok eb) dd fun h' dd' hs => h _ ?_
    obtain ⟨q, es, ep, hq, h2, h3, h4, _, h5⟩ := dd'
    refine d_write I (by rw [e]; exact True.intro) hs ⟨q, hq⟩ ⟨hl, hd, _, (rel.put k eb rv).keeps fun c ys ec => ?_, q, es, ep, hq, h2, h3, h4, h5⟩
    rw [upd_ne (ne_of ec e (fun z => nomatch z))]
    exact ec
end
section
variable {X : Cx} {pins : List (Addr × Obj)} {σ : St} {H : Hp} {s : Shared} {a : Addr} {kvs : List (Key × V)} {k : Key} {u : Value} {A : Around} {E : Value → Shared → Prop}
end
noncomputable def NoSl (i : Expr) : Prop := ∀ ov iv, subscripted i false ov iv = operate [ov, iv] (getItem ov iv)
theorem subD_of {prog : Program} {w : World} {A : Around} {E : Value → Shared → Prop} {s : Shared} {env : Env} {value slice : Expr} {pos : Pos} {T id : String} {Q : Value → Shared → Prop}
    (hl : typeLookup (.type T) "__getitem__" = pure (some (.builtin id))) (hs : NoSl slice)
    (h : wpAny (model prog w) A (eval value env) (fun o s₁ => wpAny (model prog w) A (eval slice env) (fun i s₂ => s₂.TypeIs o T ∧ wpAny (model prog w) A (getItem o i) Q E s₂) E s₁) E s) :
    wpAny (model prog w) A (eval (.Subscript value slice pos) env) Q E s := by
  refine Subscript_ (wpAny_mono h (fun o s₁ h₁ => wpAny_mono h₁ (fun i s₂ h₂ => ?_) fun _ _ x => x) fun _ _ x => x)
  obtain ⟨hT, h₂⟩ := h₂
  unfold subscriptTail
  refine wpAny_bind ?_
  rw [getitemInPython_of_ne hT.not_modules]
  refine wpAny_bind (wpAny_specialOf hT hl ?_)
  have fin : wpAny (model prog w) A (subscripted slice false o i) (fun r s₃ => wpAny (model prog w) A (letTemporaryGo value o r >>= fun _ => pure r) Q E s₃) E s₂ := by
    rw [hs o i]
    exact wpAny_operating (wpAny_mono h₂ (fun r s₃ h₃ => wpAny_bind (wpAny_letTemporaryGo (wpAny_pure h₃))) fun _ _ x => x)
  first
    | exact wpAny_pure (wpAny_bind fin)
    | exact wpAny_bind (wpAny_pure (wpAny_bind fin))
    | exact wpAny_bind fin
theorem dict_typeIs {X : Cx} {pins : List (Addr × Obj)} {σ : St} {H : Hp} {s : Shared} {a : Addr} {y : V} {o : Option V} (I : Inv X pins σ H s) (g : DGet H a y o) : s.TypeIs (.ref a) "dict" := by
  rcases g with ⟨kvs, k, e, _, _⟩ | ⟨kvs, k, b, e, _, _, _⟩
  · obtain ⟨_, _, vs, _, dd⟩ := dk_rd I.hok e
    exact dd.typeIs
  · obtain ⟨_, _, xs, _, dd⟩ := dt_rd I.hok e
    exact dd.typeIs
noncomputable def tDGet (td ty : TE) : TE := fun σ H Q => td σ H fun x H1 => ty σ H1 fun y H2 => ∃ a v, x = .ref a ∧ DGet H2 a y (some v) ∧ Q v H2
noncomputable def sDPut (td ty tv : TE) : TS := fun D σ H => tv σ H fun v H1 => td σ H1 fun x H2 => ty σ H2 fun y H3 => ∃ a H4, x = .ref a ∧ DPut H3 a y v H4 ∧ D.nx σ H4
section
variable {X : Cx} {o i e value : Expr} {pos pos' tpos : Pos} {td ty tv : TE}
theorem pe_dget (hu : X.A.units + 1 < cLine) (ho : PE X o td) (hi : PE X i ty) (hs : NoSl i) : PE X (.Subscript o i pos) (tDGet td ty) := by
  intro pins s σ H Q I h
  refine subD_of PySem.F.slot_dict_getitem.lookup hs (thn (ho pins s σ H _ I h) fun u s1 ⟨x, H1, I1, rx, q1⟩ => thn (hi pins s1 σ H1 _ I1 q1) fun iv s2 ⟨y, H2, I2, ry, a, v, ex, g, q2⟩ => ?_)
  subst ex
  obtain rfl : u = Value.ref a := rx
  exact ⟨dict_typeIs I2 g, d_getItem hu I2 g ry fun w' s3 I3 rw' => ⟨v, H2, I3, rw', q2⟩⟩
theorem ps_dput (hu : X.A.units + 1 < cLine) (ho : PE X o td) (hi : PE X i ty) (hv : PE X value tv) (hs : swapsWith value (some (.Subscript o i pos')) pos.line X.env = pure false) :
    PS X (.Assign [.Subscript o i pos'] value pos) (sDPut td ty tv) := by
  intro pins s σ H D I h
  refine wpAny_Assign_Subscript (thn (hv pins s σ H _ I h) fun r s1 ⟨v, H1, I1, rv, q1⟩ => thn (ho pins s1 σ H1 _ I1 q1) fun u s2 ⟨x, H2, I2, rx, q2⟩ => thn (hi pins s2 σ H2 _ I2 q2) fun iv s3 ⟨y, H3, I3, ry, a, H4, ex, g, q3⟩ => ?_) hs
  subst ex
  obtain rfl : u = Value.ref a := rx
  exact d_setItem hu I3 g ry rv fun s4 I4 => ⟨σ, H4, I4, q3⟩
end
theorem dt_empty {P : Program} {w : World} {H : Hp} (h : Heap) (hb : sysModules < h.objs.size) : ObjOk P w H (h.push { cls := .type "dict", data := .dict #[] }) h.objs.size (.dT []) :=
  ⟨Nat.zero_le _, beq_eq_false_iff_ne.mpr (Ne.symm (Nat.ne_of_lt hb)), [], .nil, _, #[], 0, Heap.get?_push_size _ rfl, ⟨rfl, rfl, rfl⟩, rfl, rfl, List.nodup_nil⟩
noncomputable def tDNewT : TE := fun _ H Q => ∀ p, H p = none → Q (.ref p) (upd H p (.dT []))
section
variable {X : Cx} {pos : Pos}
theorem pe_dnewT : PE X (.Dict [] [] pos) tDNewT := fun pins s σ H Q I h =>
  wpAny_Dict_empty ⟨.ref s.heap.objs.size, _, I.laid (a := s.heap.objs.size) (o := .dT []) (t' := s.toks) (fun _ _ q => Heap.get?_push_of_some _ q) (Nat.le_refl _) (dt_empty s.heap I.big), rfl, h _ (I.hok.fresh (Nat.le_refl _))⟩
end
noncomputable def tPairs : List (TE × TE) → St → Hp → (List (V × V) → Hp → Prop) → Prop
  | [], _, H, Q => Q [] H
  | (tk, tv) :: r, σ, H, Q => tk σ H fun x H1 => tv σ H1 fun y H2 => tPairs r σ H2 fun ps H3 => Q ((x, y) :: ps) H3
noncomputable abbrev VV : List (V × V) → List (Value × Value) → Prop := Paired fun p q => RelV p.1 q.1 ∧ RelV p.2 q.2
noncomputable def PPs (X : Cx) (pos : Pos) (keys : List (Option Expr)) (values : List Expr) (trs : List (TE × TE)) : Prop :=
  ∀ (pins : List (Addr × Obj)) (s : Shared) (σ : St) (H : Hp) (Q : List (V × V) → Hp → Prop), Inv X pins σ H s → tPairs trs σ H Q →
    wpAny (model X.prog X.w) X.A (evalPairs (pairTrees keys values X.env pos)) (fun vs s' => ∃ ps H', Inv X pins σ H' s' ∧ VV ps vs ∧ Q ps H') X.xe s
theorem pps_nil {X : Cx} {pos : Pos} : PPs X pos [] [] [] := fun pins s σ H Q I h => pairTrees_nil_walk ⟨[], H, I, .nil, h⟩
theorem pps_cons {X : Cx} {pos : Pos} {k v : Expr} {ks : List (Option Expr)} {vs : List Expr} {tk tv : TE} {trs : List (TE × TE)} (hk : PE X k tk) (hv : PE X v tv) (hr : PPs X pos ks vs trs) :
    PPs X pos (some k :: ks) (v :: vs) ((tk, tv) :: trs) := fun pins s σ H Q I h =>
  pairTrees_cons_walk (thn (hk pins s σ H _ I h) fun u s1 ⟨x, H1, I1, rx, q1⟩ => thn (hv pins s1 σ H1 _ I1 q1) fun w2 s2 ⟨y, H2, I2, ry, q2⟩ =>
    thn (hr pins s2 σ H2 _ I2 q2) fun ws s3 ⟨ps, H3, I3, rel, q3⟩ => ⟨(x, y) :: ps, H3, I3, .cons ⟨rx, ry⟩ rel, q3⟩)
structure M1 (X : Cx) (o : Expr) (m : Str) (apos : Pos) (e : Expr) (cpos : Pos) : Prop where
  base : attributeBase o m X.env (eval o X.env) = eval o X.env
  few : ((backTo cpos (starEach [e] X.env)).all (fun x => !x.1) && (backToKw cpos (keywordEach [] X.env)).all (fun x => x.1.isSome)
    && decide (([e] : List Expr).length + ([] : List Keyword).length + (if ([] : List Keyword).isEmpty then 0 else 1) < 30)) = true
  line : (apos.endLine == cpos.line) = true
  trees : backTo cpos (starEach [e] X.env) = [(false, eval e X.env)]
structure M2 (X : Cx) (o : Expr) (m : Str) (apos : Pos) (e f : Expr) (cpos : Pos) : Prop where
  base : attributeBase o m X.env (eval o X.env) = eval o X.env
  few : ((backTo cpos (starEach [e, f] X.env)).all (fun x => !x.1) && (backToKw cpos (keywordEach [] X.env)).all (fun x => x.1.isSome)
    && decide (([e, f] : List Expr).length + ([] : List Keyword).length + (if ([] : List Keyword).isEmpty then 0 else 1) < 30)) = true
  line : (apos.endLine == cpos.line) = true
  trees : backTo cpos (starEach [e, f] X.env) = [(false, eval e X.env), (false, eval f X.env)]
section
variable {X : Cx} {pins : List (Addr × Obj)} {σ : St} {H : Hp} {s : Shared} {a : Addr} {y d : V} {u r : Value} {o : Option V} {A : Around} {E : Value → Shared → Prop}
end
section
variable {X : Cx} {o e f : Expr} {apos cpos : Pos} {td ty tx : TE}
end
section
variable {X : Cx} {pins : List (Addr × Obj)} {σ : St} {H : Hp} {s : Shared} {a : Addr} {kvs : List (Key × V)} {A : Around} {E : Value → Shared → Prop}
end
section
variable {X : Cx} {pins : List (Addr × Obj)} {σ : St} {H : Hp} {s : Shared} {a : Addr} {y : V} {u : Value} {A : Around} {E : Value → Shared → Prop}
end
end L2
namespace L2
open PySem PySem.Spec PyProof.Rows
section
variable {P : Program} {w : World} {K : PySem.W.Frag} {mg : Str → Option Value} {base : Heap}
end
section
variable {X : Cx}
end
section
variable {κ : Type} [DecidableEq κ]
end
end L2
namespace L2
open PySem PySem.Spec PyProof.Rows
noncomputable def closOf (cells : List (Str × Addr)) : List (Str × NameKind) → List (Str × Addr) → List (Str × Addr)
  | [], acc => acc
  | (n, k) :: r, acc => closOf cells r (if k = .free then (match cells.lookup n with | some a => (n, a) :: acc | none => acc) else acc)
theorem closureFor_go {env : Env} : ∀ (names : List (Str × NameKind)) (acc : List (Str × Addr)), (∀ y ∈ names, y.2 = .free → ∃ c, env.cells.lookup y.1 = some c) →
    (forIn names acc fun (x : Str × NameKind) (r : List (Str × Addr)) =>
      (if (x.2 == NameKind.free) = true then (do let a ← cellOf env x.1; pure (ForInStep.yield ((x.1, a) :: r))) else pure (ForInStep.yield r) : Sem (ForInStep (List (Str × Addr))))) = (pure (closOf env.cells names acc) : Sem (List (Str × Addr)))
  | [], acc, _ => rfl
  | (n, k) :: rest, acc, h => by
    rw [List.forIn_cons]
    have ih := fun acc' => closureFor_go (env := env) rest acc' fun y hy => h y (List.mem_cons_of_mem _ hy)
    by_cases hk : k = .free
    · subst hk
      obtain ⟨c, hc⟩ := h (n, .free) List.mem_cons_self rfl
      have hc : env.cells.lookup n = some c := hc
      have e : cellOf env n = pure c := by unfold cellOf; rw [hc]
      simp only [beq_self_eq_true, if_true, e, pure_bind, closOf, hc]
      exact ih _
    · have hb : (k == NameKind.free) = false := by simpa using hk
      simp only [hb, Bool.false_eq_true, if_false, pure_bind, closOf, if_neg hk]
      exact ih _
theorem closureFor_eq {env : Env} {scope : Scope} (h : ∀ y ∈ scope.names, y.2 = .free → ∃ c, env.cells.lookup y.1 = some c) : closureFor scope env = pure (closOf env.cells scope.names []) := by
  have e := closureFor_go (env := env) scope.names [] h
  unfold closureFor
  simp only [bind_pure_comp, bind_pure, map_pure] at *
  exact e
theorem closOf_sub {cells : List (Str × Addr)} : ∀ (names : List (Str × NameKind)) (acc : List (Str × Addr)), (∀ x c, acc.lookup x = some c → cells.lookup x = some c) → ∀ x c, (closOf cells names acc).lookup x = some c → cells.lookup x = some c
  | [], acc, h, x, c, e => h x c e
  | (n, k) :: r, acc, h, x, c, e => by
    refine closOf_sub r _ ?_ x c e
    intro y d q
    split at q
    · split at q
      · rename_i a ha
        rw [List.lookup_cons] at q
        split at q
        · rename_i hy
          cases q
          rw [eq_of_beq hy]
          exact ha
        · exact h y d q
      · exact h y d q
    · exact h y d q
theorem closOf_has {cells : List (Str × Addr)} : ∀ (names : List (Str × NameKind)) (acc : List (Str × Addr)) (x : Str), (((x, NameKind.free) ∈ names ∧ ∃ c, cells.lookup x = some c) ∨ ∃ c, acc.lookup x = some c) → ∃ c, (closOf cells names acc).lookup x = some c
  | [], acc, x, h => by
    rcases h with ⟨h, _⟩ | h
    · cases h
    · exact h
  | (n, k) :: r, acc, x, h => by
    refine closOf_has r _ x ?_
    have up : (∃ c, acc.lookup x = some c) → ∃ c, (if k = .free then (match cells.lookup n with | some a => (n, a) :: acc | none => acc) else acc).lookup x = some c := by
      rintro ⟨c, hc⟩
      split
      · split
        · rename_i a ha
          rw [List.lookup_cons]
          split
          · exact ⟨_, rfl⟩
          · exact ⟨c, hc⟩
        · exact ⟨c, hc⟩
      · exact ⟨c, hc⟩
    rcases h with ⟨h, c, hc⟩ | h
    · rcases List.mem_cons.mp h with e | e
      · cases e
        right
        refine ⟨c, ?_⟩
        rw [if_pos rfl, hc, List.lookup_cons, beq_self_eq_true]
      · exact .inl ⟨e, c, hc⟩
    · exact .inr (up h)
theorem lookup_rel (env : Env) (x : Str) : ∀ names : List (Str × NameKind),
    (names.map fun (n, k) => if (k == NameKind.free && env.scope.kind == .function && env.kindOf n == some .cell) then (n, NameKind.cell) else (n, k)).lookup x =
      (names.lookup x).map fun k => if (k == NameKind.free && env.scope.kind == .function && env.kindOf x == some .cell) = true then NameKind.cell else k
  | [] => rfl
  | (n, k) :: r => by
    have ih := lookup_rel env x r
    show List.lookup x ((if (k == NameKind.free && env.scope.kind == .function && env.kindOf n == some .cell) = true then (n, NameKind.cell) else (n, k)) :: _) = _
    cases hx : x == n with
    | true =>
      have e : x = n := eq_of_beq hx
      subst e
      by_cases hc : (k == NameKind.free && env.scope.kind == .function && env.kindOf x == some .cell) = true
      · rw [if_pos hc, List.lookup_cons, List.lookup_cons, beq_self_eq_true]
        simp only [Option.map_some, if_pos hc]
      · rw [if_neg hc, List.lookup_cons, List.lookup_cons, beq_self_eq_true]
        simp only [Option.map_some, if_neg hc]
    | false =>
      have e : (List.lookup x ((n, k) :: r)) = List.lookup x r := by rw [List.lookup_cons, hx]
      rw [e, ← ih]
      split <;> rw [List.lookup_cons, hx]
structure BlkScope (X : Cx) (scope : Scope) (own : List Str) (fr : List (Str × Nat)) : Prop where
  kind : scope.kind = .function
  nocell : ∀ y ∈ scope.names, y.2 ≠ .cell
  loc : ∀ y ∈ scope.names, y.2 = .local → scope.names.lookup y.1 = some .local
  free : ∀ y ∈ scope.names, y.2 = .free → (X.env.scope.names.lookup y.1 = some .cell ∨ X.env.scope.names.lookup y.1 = some .free)
  fr : ∀ p ∈ fr, X.N[p.2]? = some p.1 ∧ (p.1, NameKind.free) ∈ scope.names
  only : ∀ x, (x, NameKind.free) ∈ scope.names → scope.names.lookup x = some .free
noncomputable def blkCx (X : Cx) (scope : Scope) (own : List Str) (fr : List (Str × Nat)) (C : Addr) (ex : List Addr) (s : Shared) (H : Hp) : Cx where
  prog := X.prog
  w := X.w
  K := X.K
  mg := X.mg
  base := X.base
  A := X.A
  N := own ++ fr.map (·.1)
  s₀ := s
  H₀ := H
  env := compEnvC scope (closOf X.env.cells scope.names []) C X.env
  outer := X.stack
  stack := X.stack
  ex := ex
  fn := fun _ => false
  calm := X.calm
  pn := []
  xe := fun _ _ => False
noncomputable def blkSt (own : List Str) (fr : List (Str × Nat)) (σ : St) : St := own.map (fun _ => none) ++ fr.map (fun p => (σ[p.2]?).getD none)
section
variable {X : Cx} {pins : List (Addr × Obj)} {σ : St} {H : Hp} {s : Shared} {scope : Scope} {own : List Str} {fr : List (Str × Nat)} {fp : List Addr}
theorem BlkScope.cells (S : BlkScope X scope own fr) (ok : X.Ok) : ∀ y ∈ scope.names, y.2 = .free → ∃ c, X.env.cells.lookup y.1 = some c := fun y hy e => ok.has y.1 (S.free y hy e)
theorem Inv.block {h' : Heap} {t' : Nat} {m : Str → Option Value} (I : Inv X pins σ H s) (S : BlkScope X scope own fr) (hf : ∀ b ∈ fp, FpOk X pins H b) (hlt : ∀ b ∈ fp, b < s.heap.objs.size)
    (hns : h'.Ns s.heap.objs.size m) (k : ∀ b o, s.heap.get? b = some o → h'.get? b = some o) :
    Inv (blkCx X scope own fr s.heap.objs.size fp s H) [] (blkSt own fr σ) H { s with heap := h', toks := t' } := by
  have cs : ∀ x c, (closOf X.env.cells scope.names []).lookup x = some c → X.env.cells.lookup x = some c := closOf_sub _ _ (fun _ _ e => by simp at e)
  have ck : ∀ c v, s.heap.IsCell c v → h'.IsCell c v := fun c v ⟨o, ho, hd⟩ => ⟨o, k _ _ ho, hd⟩
  have kf : ∀ x, (x, NameKind.free) ∈ scope.names → ∃ c, X.env.cells.lookup x = some c ∧ (closOf X.env.cells scope.names []).lookup x = some c := fun x hx => by
    obtain ⟨c0, e0⟩ := S.cells I.ok (x, .free) hx rfl
    obtain ⟨c, e⟩ := closOf_has (cells := X.env.cells) scope.names [] x (.inl ⟨hx, c0, e0⟩)
    exact ⟨c, cs _ _ e, e⟩
  have rel : ∀ x, (compEnvC scope (closOf X.env.cells scope.names []) s.heap.objs.size X.env).kindOf x = (scope.names.lookup x).map fun k => if (k == NameKind.free && X.env.scope.kind == .function && X.env.kindOf x == some .cell) = true then NameKind.cell else k := fun x => lookup_rel X.env x scope.names
  have nc : ∀ x, scope.names.lookup x ≠ some .cell := fun x e => S.nocell _ (PySem.mem_of_lookup e) rfl
  refine ⟨⟨I.ok.mod, S.kind, I.ok.glob, I.ok.blt, Nat.le_refl _, fun x y c e1 e2 => I.ok.inj x y c (cs _ _ e1) (cs _ _ e2), fun x hx => ?_, fun x c e _ => (nomatch e), I.ok.hd, I.ok.frames, .inl rfl,
    fun b hb => ⟨Nat.ne_of_lt (hlt b hb), fun x c e => (hf b hb).2.2.2.2.1 x c (cs _ _ e)⟩, I.bs, Nat.le_trans I.ok.bsz I.sz, fun b o e hb => ?_, fun b hb z => (List.mem_cons.mp (I.stkSub b z)).elim (hf b hb).2.1 (hf b hb).2.2.1, I.stack, I.stkFree⟩,
    rfl, I.bare, Un.kept k, ⟨m, hns, fun i x v e1 e2 e3 => ?_⟩, fun x c e => ?_, I.hok.fresh (Nat.le_refl _), fun x c e => I.freeC x c (cs _ _ e), fun p hp => absurd (show p ∈ ([] : List (Addr × Obj)) from hp) (by simp), I.hok.kept k, ?_⟩
  · have hx : (compEnvC scope (closOf X.env.cells scope.names []) s.heap.objs.size X.env).kindOf x = some .cell ∨ (compEnvC scope (closOf X.env.cells scope.names []) s.heap.objs.size X.env).kindOf x = some .free := hx
    rw [rel x] at hx
    have q : scope.names.lookup x = some .free := by
      cases e : scope.names.lookup x with
      | none => rw [e] at hx; simp at hx
      | some kk =>
        rw [e] at hx
        simp only [Option.map_some, Option.some.injEq] at hx
        by_cases hk : kk = .free
        · rw [hk]
        · have hb : (kk == NameKind.free) = false := by simpa using hk
          simp only [hb, Bool.false_and, Bool.false_eq_true, if_false] at hx
          rcases hx with hx | hx
          · rw [hx] at e; exact absurd e (nc x)
          · exact absurd hx hk
    obtain ⟨c, _, e⟩ := kf x (PySem.mem_of_lookup q)
    exact ⟨c, e⟩
  · rcases (hf b hb).2.2.2.1 with z | z
    · exact I.ok.noex b o e z
    · exact absurd (Nat.lt_of_lt_of_le (Heap.lt_size (I.ok.bs b o e).1) z) (Nat.lt_irrefl _)
  · have e1 : (own ++ fr.map (·.1))[i]? = some x := e1
    have e2 : (blkSt own fr σ)[i]? = some (some v) := e2
    unfold blkSt at e2
    by_cases hi : i < own.length
    · rw [List.getElem?_append_left (by simpa using hi), List.getElem?_map] at e2
      rw [List.getElem?_eq_getElem hi] at e2
      simp at e2
    · rw [List.getElem?_append_right (by simpa using hi), List.getElem?_map, List.length_map] at e2
      rw [List.getElem?_append_right (by omega), List.getElem?_map] at e1
      cases ep : fr[i - own.length]? with
      | none => rw [ep] at e1; simp at e1
      | some p =>
        rw [ep] at e1 e2
        simp only [Option.map_some, Option.some.injEq] at e1 e2
        subst e1
        obtain ⟨h1, h2⟩ := S.fr p (List.mem_of_getElem? ep)
        have e4 : σ[p.2]? = some (some v) := by
          cases q : σ[p.2]? with
          | none => rw [q] at e2; simp at e2
          | some z => rw [q] at e2; simp at e2; rw [e2]
        have kx := S.free _ h2 rfl
        obtain ⟨m0, hn0, hl0⟩ := I.loc
        obtain ⟨u, r, l⟩ := hl0 p.2 p.1 v h1 e4 (kx.elim (fun z => .inr (.inl z)) fun z => .inr (.inr z))
        refine ⟨u, r, ?_⟩
        rcases l with ⟨z, _⟩ | ⟨_, c, hc, hcell⟩
        · have z : X.env.scope.names.lookup p.1 = some .local := z
          rcases kx with y | y <;> (rw [y] at z; cases z)
        · obtain ⟨c', q1, q2⟩ := kf p.1 h2
          rw [hc] at q1
          cases q1
          refine .inr ⟨?_, c, q2, ck _ _ hcell⟩
          show (compEnvC scope (closOf X.env.cells scope.names []) s.heap.objs.size X.env).kindOf p.1 = some .cell ∨ (compEnvC scope (closOf X.env.cells scope.names []) s.heap.objs.size X.env).kindOf p.1 = some .free
          have e3 : (compEnvC scope (closOf X.env.cells scope.names []) s.heap.objs.size X.env).kindOf p.1 = some .local ∨ (compEnvC scope (closOf X.env.cells scope.names []) s.heap.objs.size X.env).kindOf p.1 = some .cell ∨ (compEnvC scope (closOf X.env.cells scope.names []) s.heap.objs.size X.env).kindOf p.1 = some .free := e3
          rcases e3 with e3 | e3
          · exfalso
            rw [rel] at e3
            cases e : scope.names.lookup p.1 with
            | none => rw [e] at e3; cases e3
            | some kk =>
              rw [e] at e3
              simp only [Option.map_some, Option.some.injEq] at e3
              by_cases hk : kk = .free
              · subst hk; split at e3 <;> cases e3
              · have hb : (kk == NameKind.free) = false := by simpa using hk
                simp only [hb, Bool.false_and, Bool.false_eq_true, if_false] at e3
                subst e3
                have := S.only p.1 h2
                rw [this] at e
                cases e
          · exact e3
  · obtain ⟨v, z⟩ := I.cell x c (cs _ _ e)
    exact ⟨v, ck _ _ z⟩
  · unfold blkSt
    show _ = (own ++ fr.map (·.1)).length
    simp
end
end L2
namespace L2
open PySem PySem.Spec PyProof.Rows
theorem compLoop_go {prog : Program} {w : World} {A : Around} {R : Result → Shared → Prop} {s : Shared} {elt target iter : Expr} {ifs : List Expr} {scope : Scope} {pos : Pos} {it acc : Value} {env : Env} (I : Nat → Shared → Prop)
    (turn : ∀ n s, I n s → wpAny (model prog w) A (pyNext it) (fun r s₁ => match r with
      | none => R (.ok .next) s₁
      | some v => wpAny (model prog w) A (letOwnedTupleGo target it v) (fun _ s₁' => wpAny (model prog w) A (assign target env v) (fun _ s₂ =>
          wpAny (model prog w) A (forIn ifs true fun c r => if r = true then do let ok ← isTrue c env (eval c env); pure (ForInStep.yield ok) else pure (ForInStep.yield r)) (fun ok s₃ =>
            if ok = true then wpAny (model prog w) A (eval elt env) (fun x s₄ =>
              wpAny (model prog w) A (call (.builtin "list.append") [acc, x]) (fun _ s₅ => ∃ m, m < n ∧ I m s₅) (fun _ _ => False) s₄) (fun _ _ => False) s₃
            else ∃ m, m < n ∧ I m s₃) (fun _ _ => False) s₂) (fun _ _ => False) s₁') (fun _ _ => False) s₁) (fun _ _ => False) s)
    (n : Nat) (h : I n s) : codeAny (model prog w) A (.compLoop (.ListComp elt [⟨target, iter, ifs, 0⟩] scope pos) 0 it acc env) R s := by
  refine codeAny_loop rfl I (fun n s hI => ?_) n h
  show wpAny _ A ((compTurn (.ListComp elt [⟨target, iter, ifs, 0⟩] scope pos) 0 it acc env).onRaise (fun x => do noteFrame x env; theTreesLotGoes x)) _ _ s
  refine wpAny_noted ?_
  rw [compTurn_list]
  refine wpAny_bind (wpAny_standAt (wpAny_bind (wpAny_mono (turn n s hI) (fun r s₁ h₁ => ?_) fun _ _ f => f.elim)))
  cases r with
  | none => exact wpAny_pure h₁
  | some v =>
    refine wpAny_bind (wpAny_mono h₁ (fun _ s₁' h₁' => wpAny_bind (wpAny_mono h₁' (fun _ s₂ h₂ => wpAny_bind (wpAny_mono h₂ (fun ok s₃ h₃ => ?_) fun _ _ f => f.elim)) fun _ _ f => f.elim)) fun _ _ f => f.elim)
    cases ok with
    | false => exact wpAny_pure ⟨rfl, h₃⟩
    | true =>
      exact wpAny_bind (wpAny_bind (wpAny_mono h₃ (fun x s₄ h₄ => wpAny_bind (wpAny_mono h₄ (fun _ s₅ h₅ => wpAny_pure (wpAny_pure ⟨rfl, h₅⟩)) fun _ _ f => f.elim)) fun _ _ f => f.elim))
section
variable {X : Cx}
noncomputable def PTs (X : Cx) (ifs : List Expr) (tc : TT) : Prop :=
  ∀ (pins : List (Addr × Obj)) (s : Shared) (σ : St) (H : Hp) (Q : Bool → Hp → Prop), Inv X pins σ H s → tc σ H Q →
    wpAny (model X.prog X.w) X.A (forIn ifs true fun c r => if r = true then do let ok ← isTrue c X.env (eval c X.env); pure (ForInStep.yield ok) else pure (ForInStep.yield r)) (TP X pins σ Q) X.xe s
noncomputable def tYes : TT := fun _ H Q => Q true H
theorem pts_nil : PTs X [] tYes := fun _ _ _ H _ I h => wpAny_tests_nil ⟨H, I, h⟩
noncomputable def Kp (σ0 σ : St) : Prop := σ.length = σ0.length ∧ ∀ (i : Nat) (v : V), σ0[i]? = some (some v) → σ[i]? = some (some v)
theorem Kp.refl (σ : St) : Kp σ σ := ⟨rfl, fun _ _ h => h⟩
theorem Kp.set {σ0 σ : St} {i : Nat} {v : V} (k : Kp σ0 σ) (h : σ0[i]? = some none) : Kp σ0 (σ.set i (some v)) := by
  refine ⟨by rw [List.length_set]; exact k.1, fun j u e => ?_⟩
  by_cases hj : i = j
  · subst hj; rw [h] at e; cases e
  · rw [List.getElem?_set_ne hj]; exact k.2 j u e
noncomputable def CompW (J : It) (σ0 : St) (g : TG) (tc : TT) (te : TE) (Q : VK) (H1 : Hp) (D : Addr) : Prop :=
  ∃ W : Nat → Nat → List V → Hp → Prop, (∃ m, W 0 m [] (upd H1 D (.lst []))) ∧ ∀ i m ys H, W i m ys H →
    (J.stop i H ∧ Q (.ref D) H) ∨ (J.go i H ∧ ∃ N : List V → Hp → Prop, (∀ ys' H', N ys' H' → ∃ m', m' < m ∧ W (i + 1) m' ys' H') ∧ ∀ x H', J.yld i H x H' → g x σ0 H' fun σ2 H2 => Kp σ0 σ2 ∧ tc σ2 H2 fun b H3 =>
      if b = true then te σ2 H3 fun y H4 => H4 D = some (.lst ys) ∧ ys.length < sizeLine ∧ N (ys ++ [y]) (upd H4 D (.lst (ys ++ [y]))) else N ys H3)
noncomputable def tComp (wi : TI) (own : List Str) (fr : List (Str × Nat)) (g : TG) (tc : TT) (te : TE) : TE := fun σ H Q => wi σ H fun J H1 => ∀ D, H1 D = none → CompW J (blkSt own fr σ) g tc te Q H1 D
theorem comp_run {elt tg iter : Expr} {ifs : List Expr} {scope : Scope} {pos : Pos} {own : List Str} {fr : List (Str × Nat)} {g : TG} {tc : TT} {te : TE} (hc : X.calm = true) (S : BlkScope X scope own fr)
    (hg : ∀ C ex s H, PG (blkCx X scope own fr C ex s H) tg g) (ht : ∀ C ex s H, PTs (blkCx X scope own fr C ex s H) ifs tc) (he : ∀ C ex s H, PE (blkCx X scope own fr C ex s H) elt te)
    {pins : List (Addr × Obj)} {σ : St} {H : Hp} {s : Shared} {it : Addr} {fp : List Addr} {tn : Nat → Heap → Prop} {J : It} {E : Value → Shared → Prop}
    (I : Inv X pins σ H s) (T : Turn X.prog X.w X.K tg J fp it tn) (st : tn 0 s.heap) (hf : ∀ b ∈ fp, FpOk X pins H b) {Q : VK}
    (h : ∀ D, H D = none → CompW J (blkSt own fr σ) g tc te Q H D)
    {RR : Value → Addr → Result → Shared → Prop}
    (hR : ∀ D C H' s', Inv X pins σ H' s' → (∃ m, s'.heap.Ns C m) → FpOk X pins H' C → Q (.ref D) H' → RR (.ref D) C (.ok .next) s') :
    wpAny (model X.prog X.w) X.A (newList []) (fun acc s₃ => wpAny (model X.prog X.w) X.A (newFunctionEnv scope X.env.globals (closOf X.env.cells scope.names []) [] X.env.qual none .none (some X.env)) (fun cenv s₄ =>
      codeAny (model X.prog X.w) X.A (.compStart (.ListComp elt [⟨tg, iter, ifs, 0⟩] scope pos) 0 (.ref it) acc { cenv with scope := relabel scope X.env }) (RR acc cenv.locals) s₄) E s₃) E s := by
  have hDn : H s.heap.objs.size = none := I.fresh
  obtain ⟨W, ⟨m0, w0⟩, turn⟩ := h s.heap.objs.size hDn
  have I3 : Inv X pins σ (upd H s.heap.objs.size (.lst [])) { s with heap := s.heap.push { cls := .type "list", data := .seq ([] : List Value).toArray }, toks := s.toks } := I.lnew .nil (Nat.zero_le _)
  refine wpAny_newObj_type ?_
  generalize hs3 : ({ s with heap := s.heap.push { cls := .type "list", data := .seq ([] : List Value).toArray } } : Shared) = s3 at I3 ⊢
  have I3 : Inv X pins σ (upd H s.heap.objs.size (.lst [])) s3 := I3
  have old3 : ∀ b o, s.heap.get? b = some o → s3.heap.get? b = some o := fun b o e => by rw [← hs3]; exact Heap.get?_push_of_some _ e
  have hobj : ∀ b ∈ fp, ∃ o, s.heap.get? b = some o ∧ ∀ v, o.data ≠ .cell v := T.obj 0 _ st
  have hne : ∀ b ∈ fp, b ≠ s.heap.objs.size := fun b hb => by obtain ⟨o, e, _⟩ := hobj b hb; exact Nat.ne_of_lt (Heap.lt_size e)
  have hf3 : ∀ b ∈ fp, FpOk X pins (upd H s.heap.objs.size (.lst [])) b := fun b hb => ⟨by rw [upd_ne (hne b hb)]; exact (hf b hb).1, (hf b hb).2⟩
  have hlt3 : ∀ b ∈ fp, b < s3.heap.objs.size := fun b hb => by obtain ⟨o, e, _⟩ := hobj b hb; exact Heap.lt_size (old3 b o e)
  refine wpAny_newFunctionEnv S.nocell (by intro y hy; simp at hy) (fun h₁ hns hsb => ?_) S.kind
  have keep : ∀ b o, s3.heap.get? b = some o → h₁.get? b = some o := fun b o e => hsb.extBut b o (Nat.ne_of_lt (Heap.lt_size e)) (Heap.get?_push_of_some _ e)
  have J0 := I3.block (t' := s3.toks + ([] : List (Str × Value)).length) S hf3 hlt3 hns keep
  have st3 : tn 0 h₁ := T.keep 0 _ _ st fun b hb o e => keep b o (old3 b o e)
  have loop : codeAny (model X.prog X.w) X.A (.compLoop (.ListComp elt [⟨tg, iter, ifs, 0⟩] scope pos) 0 (.ref it) (.ref s.heap.objs.size) (compEnvC scope (closOf X.env.cells scope.names []) s3.heap.objs.size X.env))
      (RR (.ref s.heap.objs.size) s3.heap.objs.size) { s3 with heap := h₁, toks := s3.toks + ([] : List (Str × Value)).length } := by
    have stat : ∀ {H' : Hp}, (∀ b ∈ fp, H' b = none) → ∀ b ∈ fp, FpOk (blkCx X scope own fr s3.heap.objs.size fp s3 (upd H s.heap.objs.size (.lst []))) [] H' b := fun {H'} hn b hb =>
      ⟨hn b hb, Nat.ne_of_lt (hlt3 b hb), J0.ok.exfs b hb, .inl hb, (J0.ok.exf b hb).2, fun p hp => absurd (show p ∈ ([] : List (Addr × Obj)) from hp) (by simp)⟩
    refine compLoop_go (fun n s' => ∃ i ys H', Inv (blkCx X scope own fr s3.heap.objs.size fp s3 (upd H s.heap.objs.size (.lst []))) [] (blkSt own fr σ) H' s' ∧ tn i s'.heap ∧ (∀ b ∈ fp, H' b = none) ∧ W i n ys H') ?_ m0
      ⟨0, [], _, J0, st3, fun b hb => (hf3 b hb).1, w0⟩
    rintro n s4 ⟨i, ys, H4, I4, st4, fr4, w4⟩
    rcases turn i n ys H4 w4 with ⟨stop, q⟩ | ⟨go, N, hN, step⟩
    · refine thn (T.done (blkCx X scope own fr s3.heap.objs.size fp s3 (upd H s.heap.objs.size (.lst []))) rfl rfl rfl hc i [] s4 _ H4 (fun _ _ => False) I4 (stat fr4) st4 stop) fun r s5 ⟨hr, I5⟩ => ?_
      subst hr
      obtain ⟨m, hn, _⟩ := id I5.loc
      exact hR _ _ H4 s5 (I3.call' I5.os I5.base I5.hok I5.bare fun b hb => ⟨(hf3 b hb).2.2.2.1, (hf3 b hb).2.1, (hf3 b hb).2.2.2.2.1, (hf3 b hb).2.2.2.2.2⟩) ⟨m, hn⟩ (I3.fpOk (Nat.le_refl _) I5.free) q
    · refine thn (T.item (blkCx X scope own fr s3.heap.objs.size fp s3 (upd H s.heap.objs.size (.lst []))) rfl rfl rfl hc i [] s4 _ H4 (fun _ _ => False) I4 (stat fr4) st4 go) fun r s5 ⟨u, hr, h5⟩ => ?_
      subst hr
      refine thn h5 fun _ s6 ⟨x, H6, I6, r6, y6, st6, fr6⟩ => ?_
      have I6' := I6.pinned (stat fr6) (T.obj _ _ st6)
      refine thn (hg _ _ _ _ _ s6 _ H6 x u _ I6' r6 (step x H6 y6)) fun _ s7 ⟨σ7, H7, I7, kp, q7⟩ => ?_
      refine thn (ht _ _ _ _ _ s7 σ7 H7 _ I7 q7) fun b s8 ⟨H8, I8, q8⟩ => ?_
      have again : ∀ {s9 : Shared} {H9 : Hp} {ys' : List V}, Inv (blkCx X scope own fr s3.heap.objs.size fp s3 (upd H s.heap.objs.size (.lst []))) ([] ++ pinsAt fp s6.heap) σ7 H9 s9 → N ys' H9 →
          ∃ m, m < n ∧ ∃ i ys H', Inv (blkCx X scope own fr s3.heap.objs.size fp s3 (upd H s.heap.objs.size (.lst []))) [] (blkSt own fr σ) H' s9 ∧ tn i s9.heap ∧ (∀ b ∈ fp, H' b = none) ∧ W i m ys H' := fun {s9 H9 ys'} I9 n9 => by
        obtain ⟨m', hm, w9⟩ := hN ys' H9 n9
        refine ⟨m', hm, i + 1, ys', H9, I9.unpinned.weak kp.1.symm kp.2, T.keep _ _ _ st6 fun b hb o e => (I9.pin (b, o) (List.mem_append_right _ (List.mem_append_right _ (mem_pinsAt hb e)))).1, fun b hb => ?_, w9⟩
        obtain ⟨o, e, d⟩ := T.obj _ _ st6 b hb
        exact (I9.pin (b, o) (List.mem_append_right _ (List.mem_append_right _ (mem_pinsAt hb e)))).2.1
      cases b with
      | false =>
        rw [if_neg Bool.false_ne_true] at q8 ⊢
        exact again I8 q8
      | true =>
        rw [if_pos rfl] at q8 ⊢
        refine thn (he _ _ _ _ _ s8 σ7 H8 _ I8 q8) fun xv s9 ⟨y, H9, I9, r9, hD, hl, n9⟩ => ?_
        refine thn (mt_append _ s9 σ7 H9 (.ref s.heap.objs.size) [y] (.ref s.heap.objs.size) [xv] (fun _ H' => H' = upd H9 s.heap.objs.size (.lst (ys ++ [y]))) I9 rfl (.cons r9 .nil) ⟨_, ys, y, rfl, rfl, hD, hl, rfl⟩) fun _ s10 ⟨_, H10, I10, _, q10⟩ => ?_
        subst q10
        exact again I10 n9
  exact codeAny_compStart_list loop (T.self _ 0 _ _ _ st3 loop)
theorem pe_comp {elt tg iter : Expr} {ifs : List Expr} {scope : Scope} {pos : Pos} {own : List Str} {fr : List (Str × Nat)} {wi : TI} {g : TG} {tc : TT} {te : TE} (hc : X.calm = true) (S : BlkScope X scope own fr) (hi : PI X tg iter wi)
    (hg : ∀ C ex s H, PG (blkCx X scope own fr C ex s H) tg g) (ht : ∀ C ex s H, PTs (blkCx X scope own fr C ex s H) ifs tc) (he : ∀ C ex s H, PE (blkCx X scope own fr C ex s H) elt te)
    (hs : ∀ x, foldedSetIterable iter X.env x = pure x := by intro _; rfl) : PE X (.ListComp elt [⟨tg, iter, ifs, 0⟩] scope pos) (tComp wi own fr g tc te) := by
  intro pins s σ H Q I h
  rw [eval_ListComp]
  refine wpAny_comprehension_free (use := none) rfl hs (closureFor_eq (S.cells I.ok)) S.kind S.loc (thn (hi pins s σ H _ I h) fun xv s₁ h₁ => thn h₁ fun itv s₂ h₂ => ?_)
  obtain ⟨it, fp, tn, J, H2, rfl, I2, T, st2, f2, h2⟩ := h₂
  refine comp_run (RR := fun acc C => compPost (model X.prog X.w) X.A X.xe none (EP X pins σ Q) acc C) hc S hg ht he I2 T st2 f2 h2 ?_
  rintro D C H' s' I' ⟨m, hn⟩ f q
  exact ⟨m, hn, fun h' sb => ⟨.ref D, H', I'.turned (t' := s'.toks) (it := C) (fun b o hb e => (sb.2 b hb).trans e) f.1 f.2.1 f.2.2.2.1 f.2.2.2.2.1 f.2.2.2.2.2, rfl, q⟩⟩
theorem ps_comp {i : Nat} {x : Str} {px spos : Pos} {elt tg iter : Expr} {ifs : List Expr} {scope : Scope} {pos : Pos} {own : List Str} {fr : List (Str × Nat)} {wi : TI} {g : TG} {tc : TT} {te : TE} (hN : X.N.Nodup) (hix : X.N[i]? = some x) (hx : Loc X.env.scope x)
    (hc : X.calm = true) (S : BlkScope X scope own fr) (hi : PI X tg iter wi)
    (hg : ∀ C ex s H, PG (blkCx X scope own fr C ex s H) tg g) (ht : ∀ C ex s H, PTs (blkCx X scope own fr C ex s H) ifs tc) (he : ∀ C ex s H, PE (blkCx X scope own fr C ex s H) elt te)
    (hsw : swapsWith (.ListComp elt [⟨tg, iter, ifs, 0⟩] scope pos) (some (.Name x px)) spos.line X.env = pure true := by rfl)
    (hf : X.fn x = true ∨ X.env.scope.names.lookup x = some .local := by first | exact .inl rfl | exact .inr rfl | assumption)
    (hs : ∀ x, foldedSetIterable iter X.env x = pure x := by intro _; rfl) : PS X (.Assign [.Name x px] (.ListComp elt [⟨tg, iter, ifs, 0⟩] scope pos) spos) (tAsg (tComp wi own fr g tc te) (gName i)) := by
  intro pins s σ H D I h
  rw [exec_Assign_Name_used _ _ _ _ hsw]
  refine wpAny_bind (wpAny_standAt (wpAny_bind ?_))
  show wpAny _ X.A (do let _ ← comprehension (.ListComp elt [⟨tg, iter, ifs, 0⟩] scope pos) scope X.env _ (newList []) false (eval iter X.env) (some (assign (.Name x px) X.env))) _ _ s
  refine wpAny_bind (wpAny_mono (wpAny_comprehension_free (use := some (assign (.Name x px) X.env)) (Q := fun _ s' => SP X pins D .next s') rfl hs (closureFor_eq (S.cells I.ok)) S.kind S.loc
    (thn (hi pins s σ H _ I h) fun xv s₁ h₁ => thn h₁ fun itv s₂ h₂ => ?_)) (fun _ s' hq => wpAny_pure (wpAny_pure hq)) fun _ _ e => e)
  obtain ⟨it, fp, tn, J, H2, rfl, I2, T, st2, f2, h2⟩ := h₂
  refine comp_run (Q := fun x H1 => gName i x σ H1 D.nx) (RR := fun acc C => compPost (model X.prog X.w) X.A X.xe (some (assign (.Name x px) X.env)) (fun _ s' => SP X pins D .next s') acc C) hc S hg ht he I2 T st2 f2 h2 ?_
  rintro Dl C H' s' I' ⟨m, hn⟩ f q
  obtain ⟨o, es, ep, ho, hd, r⟩ := hn
  have pinC : ∀ v, o.data ≠ .cell v := fun v z => by rw [hd] at z; cases z
  have I'' : Inv X (pins ++ [(C, o)]) σ H' s' := I'.pins_of fun p hp => (List.mem_append.mp hp).elim (fun z => I'.pin p (List.mem_append_right _ z)) fun z => by
    have e : p = (C, o) := by simpa using z
    subst e
    exact ⟨ho, f.1, f.2.1, f.2.2.1, pinC⟩
  show wpAny _ X.A (assign (.Name x px) X.env (.ref Dl)) _ _ s'
  refine wpAny_assign_Name (store_ok I'' hN hix hx (v := .ref Dl) rfl (fun s2 I2 => ?_) hf)
  have pc := (I2.pin (C, o) (List.mem_append_right _ (List.mem_append_right _ (by simp)))).1
  refine ⟨m, ⟨o, es, ep, pc, hd, r⟩, fun h' sb => ⟨_, H', ?_, q⟩⟩
  exact (I2.unpinned (pl := [(C, o)])).turned (t' := s2.toks) (it := C) (fun b o hb e => (sb.2 b hb).trans e) f.1 f.2.1 f.2.2.2.1 f.2.2.2.2.1 f.2.2.2.2.2
end
noncomputable def Its (x : Str) : It := ⟨fun i _ => i < x.cps.size, fun i H v H' => H' = H ∧ ∃ c, x.cps[i]? = some c ∧ v = .str ⟨#[c]⟩, fun i _ => x.cps.size ≤ i⟩
theorem strIter_obj {h : Heap} {it : Addr} {T : String} {x : Str} {t : Tok} {i : Nat} (st : h.IsStrIter it T x t i) : ∃ o, h.get? it = some o ∧ o.cls = .type T ∧ o.data = .fields #[.str x t, .int (i : Int) 0] := st
theorem turn_str {P : Program} {w : World} {K : PySem.W.Frag} {tg : Expr} (x : Str) (t : Tok) (it : Addr) (T : String) (hT : T = "str_ascii_iterator" ∨ T = "str_iterator") : Turn P w K tg (Its x) [it] it (fun i h => h.IsStrIter it T x t i) where
  mem := by simp
  obj := fun i h st b hb => by
    have e : b = it := by simpa using hb
    subst e
    obtain ⟨o, e, c, d⟩ := strIter_obj st
    exact ⟨o, e, fun v z => by rw [d] at z; cases z⟩
  keep := fun i h h' st k => let ⟨o, ho, r⟩ := st; ⟨o, k it (by simp) o ho, r⟩
  item := by
    intro X hP hw hK hc i pins s σ H E I hf st hg
    subst hP hw hK
    have hg : i < x.cps.size := hg
    obtain ⟨f0, f1, f2, f3, f4, f5⟩ := hf it (by simp)
    have hx : x.cps[i]? = some x.cps[i] := by simp [hg]
    have fin : ∀ h', h'.IsStrIter it T x t (i + 1) → Heap.SameBut it s.heap h' → ∃ u, some (Value.str ⟨#[x.cps[i]]⟩ s.toks) = some u ∧
        wpAny (model X.prog X.w) X.A (letOwnedTupleGo tg (.ref it) u) (fun _ s2 => ∃ y H', Inv X pins σ H' s2 ∧ RelV y u ∧ (Its x).yld i H y H' ∧ s2.heap.IsStrIter it T x t (i + 1) ∧ ∀ b ∈ [it], H' b = none) E { s with heap := h', toks := s.toks + 1 } := fun h' st' sb => by
      have I1 : Inv X pins σ H { s with heap := h', toks := s.toks + 1 } := I.turned (t' := s.toks + 1) (fun b o hb e => (sb.2 b hb).trans e) f0 f1 f3 f4 f5
      obtain ⟨o, e, c, d⟩ := strIter_obj st'
      refine ⟨_, rfl, go_of (s := { s with heap := h', toks := s.toks + 1 }) e c d ?_ ⟨.str ⟨#[x.cps[i]]⟩, H, I1, ⟨_, rfl⟩, ⟨rfl, _, hx, rfl⟩, st', fun b hb => (hf b hb).1⟩⟩
      rcases hT with rfl | rfl <;> decide
    rcases hT with rfl | rfl
    · exact wpAny_pyNext_ascii_item st hx fin
    · exact wpAny_pyNext_wide_item st hx fin
  done := by
    intro X hP hw hK hc i pins s σ H E I hf st hg
    subst hP hw hK
    have hg : x.cps.size ≤ i := hg
    obtain ⟨f0, f1, f2, f3, f4, f5⟩ := hf it (by simp)
    rcases hT with rfl | rfl
    · exact wpAny_pyNext_ascii_end (I.ok.hd hc) st (by simp [hg]) fun h' eb => ⟨rfl, I.turned (t' := s.toks) (fun b o hb e => eb b o hb e) f0 f1 f3 f4 f5⟩
    · exact wpAny_pyNext_wide_end (I.ok.hd hc) st (by simp [hg]) fun h' eb => ⟨rfl, I.turned (t' := s.toks) (fun b o hb e => eb b o hb e) f0 f1 f3 f4 f5⟩
  self := fun _ _ _ _ _ st h => by
    rcases hT with rfl | rfl
    · exact wpAny_pyIter_striter_ascii st h
    · exact wpAny_pyIter_striter_wide st h
section
variable {X : Cx} {tg : Expr}
noncomputable def iStr (te : TE) : TI := fun σ H R => te σ H fun x H1 => ∃ z, x = .str z ∧ R (Its z) H1
theorem pi_str {e : Expr} {te : TE} (he : PE X e te) : PI X tg e (iStr te) := by
  intro pins s σ H R I h
  refine thn (he pins s σ H _ I h) fun v s1 ⟨x, H1, I1, r1, q1⟩ => ?_
  obtain ⟨z, e, q⟩ := q1
  subst e
  obtain ⟨t, rfl⟩ := r1
  have fin : ∀ T, (T = "str_ascii_iterator" ∨ T = "str_iterator") → PIE X pins σ tg R (.ref s1.heap.objs.size) { s1 with heap := s1.heap.push { cls := .type T, data := .fields #[.str z t, .int 0 0] } } := fun T hT => by
    refine ⟨s1.heap.objs.size, [s1.heap.objs.size], _, _, H1, rfl, I1.kept (t' := s1.toks) fun b o e => Heap.get?_push_of_some _ e, turn_str z t _ T hT, ⟨_, Heap.get?_push_size _ rfl, rfl, rfl⟩, fun b hb => ?_, q⟩
    have e : b = s1.heap.objs.size := by simpa using hb
    subst e
    exact I1.fpOk (Nat.le_refl _) (I1.hok.fresh (Nat.le_refl _))
  cases ha : z.cps.all (· < 128)
  · exact wpAny_pyIter_wide ha (fin _ (.inr rfl))
  · exact wpAny_pyIter_ascii ha (fin _ (.inl rfl))
end
end L2
namespace MS
open PySem PySem.StrLaws Builtin Builtin.Str
theorem subAt_one (x : Str) (c i : Nat) : subAt x ⟨#[c]⟩ i = decide (x.cps.toList[i]? = some c) := by
  rw [subAt_eq]
  show ((x.cps.toList.drop i).take 1 == [c]) = _
  rw [Bool.eq_iff_iff, beq_iff_eq, decide_eq_true_iff]
  cases h : x.cps.toList[i]? with
  | none =>
    rw [List.drop_of_length_le (List.getElem?_eq_none_iff.mp h)]
    simp
  | some d =>
    obtain ⟨hi, e⟩ := List.getElem?_eq_some_iff.mp h
    rw [List.drop_eq_getElem_cons hi]
    simp [e]
end MS
namespace MN
open PySem PySem.StrLaws PySem.NumText Builtin Builtin.Str
noncomputable def isDig (c : Nat) : Bool := decide (48 ≤ c) && decide (c ≤ 57)
noncomputable def numOf (cs : List Nat) : Option Nat := if (decide (1 ≤ cs.length) && decide (cs.length ≤ 3) && cs.all isDig && !(decide (1 < cs.length) && cs.head? == some 48)) = true then some (digitsVal cs) else none
theorem num_back : ∀ m, m < 1000 → numOf ((Nat.toDigits 10 m).map Char.toNat) = some m := by decide +kernel
theorem num_text {i : Int} (h0 : 0 ≤ i) (h1 : i < 1000) : numOf (Str.ofString (toString i)).cps.toList = some i.toNat := by
  obtain ⟨m, rfl⟩ := Int.eq_ofNat_of_zero_le h0
  rw [PySem.W.KIN.signs_num]
  exact num_back m (by omega)
theorem num_len {i : Int} (h0 : 0 ≤ i) (h1 : i < 1000) : (Str.ofString (toString i)).length ≤ 3 := by
  have h := num_text h0 h1
  unfold numOf at h
  split at h
  · rename_i hc
    simp only [Bool.and_eq_true, decide_eq_true_iff] at hc
    have := hc.1.1.2
    simpa [Str.length] using this
  · cases h
theorem in_one (x : Str) (c : Nat) : (!(occurrences x ⟨#[c]⟩ 0 x.length 1).isEmpty) = decide (c ∈ x.cps.toList) := by
  rw [Bool.eq_iff_iff, decide_eq_true_iff, found_iff, List.mem_iff_getElem?]
  constructor
  · rintro ⟨i, h⟩
    exact ⟨i, (StrLaws.subAt_one x c i).mp h⟩
  · rintro ⟨i, h⟩
    exact ⟨i, (StrLaws.subAt_one x c i).mpr h⟩
theorem fig_mem (c : Nat) : decide (c ∈ (Str.ofString "0123456789").cps.toList) = isDig c := by
  have e : (Str.ofString "0123456789").cps.toList = [48, 49, 50, 51, 52, 53, 54, 55, 56, 57] := by decide +kernel
  rw [e]
  unfold isDig
  rw [Bool.eq_iff_iff]
  simp
  omega
end MN
namespace L2
open PySem PySem.Spec PyProof.Rows
section
variable {X : Cx}
noncomputable def rSlS : V → Option Int → Option Int → Hp → VK → Prop := fun x lo hi H Q => ∃ z, x = .str z ∧ z.length ≤ sizeLine ∧ Q (.str (Txt.slice z lo hi)) H
theorem sl_str : SlR X rSlS := by
  intro pins s σ H x v vl vu lo hi sl Q I rx hs pl pu h
  obtain ⟨z, rfl, hz, q⟩ := h
  obtain ⟨t, rfl⟩ := rx
  refine ⟨"str", _, F.slot_str_getitem.lookup, typeIs_str _ _ _, ?_⟩
  have fin : ∀ t' k, EP X pins σ Q (.str (Txt.slice z lo hi) t') { s with toks := k } := fun t' k => ⟨.str _, H, I.tok k, ⟨t', rfl⟩, q⟩
  obtain ⟨o, ho, hc, hd⟩ := hs
  cases pl with
  | none =>
    cases pu with
    | none => exact wpAny_getItem_str_slice (l := none) (u := none) (st := none) ⟨o, ho, hc, hd⟩ rfl (post_val_or_str ⟨Nat.le_trans (Txt.slice_le z _ _) hz, fin⟩)
    | int j uj => exact wpAny_getItem_str_slice (l := none) (u := some (j, uj)) (st := none) ⟨o, ho, hc, hd⟩ rfl (post_val_or_str ⟨Nat.le_trans (Txt.slice_le z _ _) hz, fin⟩)
  | int i ui =>
    cases pu with
    | none => exact wpAny_getItem_str_slice (l := some (i, ui)) (u := none) (st := none) ⟨o, ho, hc, hd⟩ rfl (post_val_or_str ⟨Nat.le_trans (Txt.slice_le z _ _) hz, fin⟩)
    | int j uj => exact wpAny_getItem_str_slice (l := some (i, ui)) (u := some (j, uj)) (st := none) ⟨o, ho, hc, hd⟩ rfl (post_val_or_str ⟨Nat.le_trans (Txt.slice_le z _ _) hz, fin⟩)
theorem mt_startswith : MtM X "str.startswith" (fun x vs H Q => ∃ z y, x = .str z ∧ vs = [.str y] ∧ Q (.bl (Txt.startswith z y)) H) := by
  intro pins s σ H x vs v us Q I rx rv h
  obtain ⟨z, y, rfl, rfl, q⟩ := h
  obtain ⟨t, rfl⟩ := rx
  obtain ⟨u, rfl, ru⟩ := rv.one
  obtain ⟨u', rfl⟩ := ru
  exact SC.startswith ⟨.bl _, H, I, rfl, q⟩
theorem mt_endswith : MtM X "str.endswith" (fun x vs H Q => ∃ z y, x = .str z ∧ vs = [.str y] ∧ Q (.bl (Txt.endswith z y)) H) := by
  intro pins s σ H x vs v us Q I rx rv h
  obtain ⟨z, y, rfl, rfl, q⟩ := h
  obtain ⟨t, rfl⟩ := rx
  obtain ⟨u, rfl, ru⟩ := rv.one
  obtain ⟨u', rfl⟩ := ru
  exact SC.endswith ⟨.bl _, H, I, rfl, q⟩
theorem call_int_text : CallR X (.type "int") (fun xs H Q => ∃ z n, xs = [.str z] ∧ PySem.intText? z = some n ∧ z.length ≤ 640 ∧ Q (.int n) H) := by
  intro pins s σ H xs us Q I r h
  obtain ⟨z, n, rfl, hn, hl, q⟩ := h
  obtain ⟨u, rfl, rx⟩ := vals1 r
  obtain ⟨t, rfl⟩ := rx
  exact PySem.W.KIN.call_text hn hl ⟨.int n, H, I.tok _, ⟨_, rfl⟩, q⟩
theorem fst_of_ints : ∀ {ns : List Int} {l : List (Int × Tok)}, Vals (ns.map V.int) (l.map fun p => Value.int p.1 p.2) → l.map (·.1) = ns
  | [], [], _ => rfl
  | n :: ns, p :: l, r => by
    cases r with
    | cons r1 r2 =>
      obtain ⟨t, e⟩ := r1
      injection e with e1 e2
      rw [List.map_cons, fst_of_ints r2, e1]
  | [], _ :: _, r => by cases r
  | _ :: _, [], r => by cases r
theorem call_sum (hc : X.calm = true) : CallR X (.builtin "sum") (fun xs H Q => ∃ (p : Addr) (ns : List Int), xs = [.ref p] ∧ SqL X.K H p (ns.map V.int) ∧ Q (.int ns.sum) H) := by
  intro pins s σ H xs us Q I r h
  obtain ⟨p, ns, rfl, hq, q⟩ := h
  obtain ⟨u, rfl, rx⟩ := vals1 r
  cases rx
  obtain ⟨its, rv, pl, _⟩ := I.list hq
  obtain ⟨ps, e⟩ := (IntsAre.allInts (intsAre_of rv)).items
  have e' : its = ps.toList.map fun p => Value.int p.1 p.2 := by
    have := congrArg Array.toList e
    simpa [intItems] using this
  have hl := pl.isList
  rw [e] at hl
  refine sum_intListG (I.ok.hd hc) hl fun h' tk t' hk => ?_
  have es : preSum (numAt ps) ps.size = ns.sum := by
    rw [preSum_eq, List.take_of_length_le (by simp), fst_of_ints (ns := ns) (l := ps.toList) (by rw [← e']; exact rv)]
  rw [es]
  exact ⟨.int ns.sum, H, I.kept hk, ⟨t', rfl⟩, q⟩
theorem all_range (bs : List Bool) : (List.range bs.length).all (fun i => bs.getD i true) = bs.all id := by
  rw [Bool.eq_iff_iff, List.all_eq_true, List.all_eq_true]
  constructor
  · intro h b hb
    obtain ⟨i, hi, rfl⟩ := List.getElem_of_mem hb
    have := h i (by simpa using hi)
    rw [List.getD_eq_getElem?_getD, List.getElem?_eq_getElem hi] at this
    exact this
  · intro h i hi
    have hi : i < bs.length := by simpa using hi
    rw [List.getD_eq_getElem?_getD, List.getElem?_eq_getElem hi]
    exact h _ (List.getElem_mem hi)
theorem call_all (hc : X.calm = true) : CallR X (.builtin "all") (fun xs H Q => ∃ (p : Addr) (bs : List Bool), xs = [.ref p] ∧ SqL X.K H p (bs.map V.bl) ∧ Q (.bl (bs.all id)) H) := by
  intro pins s σ H xs us Q I r h
  obtain ⟨p, bs, rfl, hq, q⟩ := h
  obtain ⟨u, rfl, rx⟩ := vals1 r
  cases rx
  obtain ⟨its, rv, pl, _⟩ := I.list hq
  have hl := rv.length
  rw [List.length_map] at hl
  obtain ⟨o, ho, _⟩ := id pl.isList
  have hne : p ≠ s.heap.objs.size := Nat.ne_of_lt (Heap.lt_size ho)
  refine call_all_walk (wpAny_pyIter_list pl.isList ?_)
  refine ⟨s.heap.objs.size, _, _, _, _, _, fun i => bs.getD i true, rfl, Walks.list (A := X.A.in1) (I.ok.hd hc) _ p hne its.toArray, ⟨⟨_, Heap.get?_push_size _ rfl, rfl, rfl⟩, pl.isList.at fun o e => Heap.get?_push_of_some _ e⟩, ?_, fun h' tk hk => ?_⟩
  · intro i v s' Q' E' hv hQ'
    have hv : its[i]? = some v := by simpa using hv
    have hi : i < bs.length := by rw [hl]; exact (List.getElem?_eq_some_iff.mp hv).1
    obtain ⟨u, hu, ru⟩ := rv.get (i := i) (x := .bl (bs.getD i true)) (by rw [List.getElem?_map, List.getD_eq_getElem?_getD, List.getElem?_eq_getElem hi]; rfl)
    rw [hu] at hv
    cases hv
    cases ru
    exact wpAny_truthy_bool hQ'
  · have e : its.toArray.size = bs.length := by rw [List.size_toArray]; exact hl.symm
    rw [e, all_range]
    exact ⟨.bl _, H, I.kept fun b o e => hk b o (fun z => by simp at z; exact absurd (Heap.lt_size e) (by rw [z]; exact Nat.lt_irrefl _)) (Heap.get?_push_of_some _ e), rfl, q⟩
theorem call_isinst : CallR X (.builtin "isinstance") (fun xs H Q => ∃ x n t b, xs = [x, .ty n] ∧ TyOf X.K H x t ∧ PySem.W.kitOne X.K t (.type n) = some b ∧ Q (.bl b) H) := by
  intro pins s σ H xs us Q I r h
  obtain ⟨x, n, t, b, rfl, ty, e, q⟩ := h
  obtain ⟨u, c, rfl, rx, rc⟩ := vals2 r
  cases rc
  exact isinst_ok I rx ty e fun tk => ⟨.bl b, H, I.tok tk, rfl, q⟩
noncomputable def rCatS (K : PySem.W.Frag) : R2 := fun x y H Q => ∃ l b xs zs, x = .ref l ∧ y = .ref b ∧ SqL K H l xs ∧ SqL K H b zs ∧ xs.length + zs.length ≤ sizeLine ∧ ∀ p, H p = none → Q (.ref p) (upd H p (.lst (xs ++ zs)))
theorem op_catS : OpR X (binaryOp .Add) (rCatS X.K) := by
  intro pins s σ H x y v u Q I rx ry h
  obtain ⟨l, b, xs, zs, rfl, rfl, hH, hB, hz, q⟩ := h
  cases rx
  cases ry
  obtain ⟨its, r, pl, _⟩ := I.list hH
  obtain ⟨its2, r2, pl2, _⟩ := I.list hB
  have h1 := r.length
  have h2 := r2.length
  obtain ⟨⟨cls, dd, data, sl⟩, n, ho, hc, hdd, hd⟩ := pl
  obtain ⟨⟨cls2, dd2, data2, sl2⟩, n2, ho2, hc2, hdd2, hd2⟩ := pl2
  simp only at hc hdd hd hc2 hdd2 hd2
  subst hc hdd hd hc2 hdd2 hd2
  refine concat_meets ⟨_, ho, rfl⟩ ⟨_, ho2, rfl⟩ noFill_list_add seq_list_add PySem.F.slot_list_add PySem.F.entry_list_add (PySem.F.args_list_add_2 _ _) (list_addW l b its.toArray its2.toArray n n2 none none sl sl2 (by rw [List.size_toArray, List.size_toArray]; omega)) ⟨ho, ho2, ?_⟩
  have e : its.toArray ++ its2.toArray = (its ++ its2).toArray := by simp
  rw [e]
  exact ⟨.ref _, _, I.lnew (t' := s.toks) (r.append r2) (by rw [List.length_append]; omega), rfl, q _ I.fresh⟩
noncomputable def eqVs (xs ys : List V) : Bool := xs.length == ys.length && (List.range xs.length).all fun i => eqV (xs.getD i .non) (ys.getD i .non)
theorem flat_getD {xs : List V} (h : xs.all flatV = true) {i : Nat} (hi : i < xs.length) : flatV (xs.getD i .non) = true := by
  rw [List.getD_eq_getElem?_getD, List.getElem?_eq_getElem hi]
  exact (List.all_eq_true.mp h) _ (List.getElem_mem hi)
noncomputable def rEqL (K : PySem.W.Frag) (neg : Bool) : R2 := fun x y H Q => ∃ p q xs ys, x = .ref p ∧ y = .ref q ∧ SqL K H p xs ∧ SqL K H q ys ∧ xs.all flatV = true ∧ ys.all flatV = true ∧ Q (.bl (if neg then !eqVs xs ys else eqVs xs ys)) H
theorem eqAt_items {A : Around} {s : Shared} {xs ys : List V} {its its2 : List Value} (r : Vals xs its) (r2 : Vals ys its2) (fx : xs.all flatV = true) (fy : ys.all flatV = true) :
    ∀ j (h1 : j < its.toArray.size) (h2 : j < its2.toArray.size), SeqAt.EqAt A s its.toArray[j] its2.toArray[j] (eqV (xs.getD j .non) (ys.getD j .non)) := fun j h1 h2 => by
  have l1 := r.length
  have l2 := r2.length
  have h1' : j < its.length := by simpa using h1
  have h2' : j < its2.length := by simpa using h2
  have g1 : xs[j]? = some (xs.getD j .non) := by rw [List.getD_eq_getElem?_getD, List.getElem?_eq_getElem (by omega)]; rfl
  have g2 : ys[j]? = some (ys.getD j .non) := by rw [List.getD_eq_getElem?_getD, List.getElem?_eq_getElem (by omega)]; rfl
  obtain ⟨u, e1, ru⟩ := r.get g1
  obtain ⟨u2, e2, ru2⟩ := r2.get g2
  have q1 : its.toArray[j] = u := by rw [List.getElem?_eq_getElem h1'] at e1; simpa using Option.some.inj e1
  have q2 : its2.toArray[j] = u2 := by rw [List.getElem?_eq_getElem h2'] at e2; simpa using Option.some.inj e2
  rw [q1, q2]
  exact eqAt_V ru ru2 (flat_getD fx (by omega)) (flat_getD fy (by omega))
theorem op_eqL (hu : X.A.units < cLine) : OpR X (compareOp .Eq) (rEqL X.K false) := by
  intro pins s σ H x y v u Q I rx ry h
  obtain ⟨p, q, xs, ys, rfl, rfl, h1, h2, fx, fy, hq⟩ := h
  cases rx
  cases ry
  obtain ⟨its, r, pl, _⟩ := I.list h1
  obtain ⟨its2, r2, pl2, _⟩ := I.list h2
  have l1 := r.length
  have l2 := r2.length
  by_cases hl : xs.length = ys.length
  · refine SeqAt.eq_listAt pl.isList pl2.isList (by simp; omega) hu (eqAt_items r r2 fx fy) ⟨.bl _, H, I, rfl, ?_⟩
    have e : eqVs xs ys = (List.range its.toArray.size).all fun i => eqV (xs.getD i .non) (ys.getD i .non) := by
      unfold eqVs
      rw [hl, beq_self_eq_true, Bool.true_and, List.size_toArray, ← l1, hl]
    rw [← e]
    exact hq
  · refine SeqAt.eq_list_lengthsAt pl.isList pl2.isList (by simp; omega) hu ⟨.bl _, H, I, rfl, ?_⟩
    have e : eqVs xs ys = false := by unfold eqVs; rw [beq_eq_false_iff_ne.mpr hl, Bool.false_and]
    rw [← e]
    exact hq
theorem op_neL (hu : X.A.units < cLine) : OpR X (compareOp .NotEq) (rEqL X.K true) := by
  intro pins s σ H x y v u Q I rx ry h
  obtain ⟨p, q, xs, ys, rfl, rfl, h1, h2, fx, fy, hq⟩ := h
  cases rx
  cases ry
  obtain ⟨its, r, pl, _⟩ := I.list h1
  obtain ⟨its2, r2, pl2, _⟩ := I.list h2
  have l1 := r.length
  have l2 := r2.length
  by_cases hl : xs.length = ys.length
  · refine SeqAt.RcNeAt.lists pl.isList pl2.isList (by simp; omega) hu (eqAt_items r r2 fx fy) _ _ _ _ ⟨.bl _, H, I, rfl, ?_⟩
    have e : eqVs xs ys = (List.range its.toArray.size).all fun i => eqV (xs.getD i .non) (ys.getD i .non) := by
      unfold eqVs
      rw [hl, beq_self_eq_true, Bool.true_and, List.size_toArray, ← l1, hl]
    rw [← e]
    exact hq
  · refine SeqAt.RcNeAt.lists_lengths pl.isList pl2.isList (by simp; omega) hu _ _ _ _ ⟨.bl _, H, I, rfl, ?_⟩
    have e : eqVs xs ys = false := by unfold eqVs; rw [beq_eq_false_iff_ne.mpr hl, Bool.false_and]
    rw [e] at hq
    exact hq
end
end L2
namespace L2
open PySem PySem.Spec PyProof.Rows
noncomputable def CallF (P : Program) (w : World) (K : PySem.W.Frag) (mg : Str → Option Value) (base : Heap) (x : Str) (k : Nat) (ps : List Str) (sp : Sp) : Prop :=
  ∃ f fd, mg x = some (.ref f) ∧ PySem.W.keepIn K (.ref f) = true ∧ FnOk P w K mg base CX0 k f fd ps sp ∧ Binds K fd ps []
section
variable {X : Cx} {x : Str} {k : Nat} {ps : List Str} {sp : Sp} {e : Expr} {es : List Expr} {t : TA} {p pos : Pos}
theorem pe_callF (h : CallF X.prog X.w X.K X.mg X.base x k ps sp) (hr : Room k X.A) (ha : PA X (e :: es) t) (hg : Gl X x := by rfl) (hdb : (x == ("__debug__" : Str)) = false := by decide)
    (he : starEach (e :: es) X.env = (false, eval e X.env) :: starEach es X.env := by rfl) (hpl : (backTo pos (starEach es X.env)).any (·.1) = false := by rfl) :
    PE X (.Call (.Name x p) (e :: es) [] pos) (tCall sp [] E0 t) := by
  obtain ⟨f, fd, hm, hk, F, hb⟩ := h
  exact pe_call F hr hg hm hk hb .nil pass0 ha hdb he hpl
end
structure DefAt (K : PySem.W.Frag) (mg : Str → Option Value) (x : Str) (st : Stmt) (ps : List Str) (f : Addr) (fd : FuncData) : Prop where
  fn : Fun K x x st f fd
  at' : mg x = some (.ref f)
  bi : Binds K fd ps []
theorem DefAt.call {P : Program} {w : World} {K : PySem.W.Frag} {mg : Str → Option Value} {base : Heap} {x : Str} {st : Stmt} {ps : List Str} {f : Addr} {fd : FuncData} {k : Nat} {sp : Sp} (d : DefAt K mg x st ps f fd)
    (F : FnOk P w K mg base CX0 k f fd ps sp) : CallF P w K mg base x k ps sp := ⟨f, fd, d.at', d.fn.kp, F, d.bi⟩
noncomputable def isIntV : V → Bool | .int _ => true | _ => false
noncomputable def isBlV : V → Bool | .bl _ => true | _ => false
noncomputable def Ty (K : PySem.W.Frag) (H : Hp) (x : V) : Prop := ∃ n, TyOf K H x (.type n)
noncomputable def kitB (n T : String) : Option Bool := if (Value.type n == Value.type T) = true then some true else if PySem.W.kitMeta T = true then (fastBuiltinMro n).map (·.contains (.type T)) else none
section
variable {K : PySem.W.Frag} {H : Hp} {x : V} {n : String}
theorem kb {n T : String} {b : Bool} (h : kitB n T = some b) : PySem.W.kitOne K (.type n) (.type T) = some b := h
theorem kit_int (h : TyOf K H x (.type n)) : PySem.W.kitOne K (.type n) (.type "int") = some (isIntV x || isBlV x) := by
  cases h <;> first
    | exact (show PySem.W.kitOne K _ _ = some true from kb (by decide +kernel))
    | exact (show PySem.W.kitOne K _ _ = some false from kb (by decide +kernel))
theorem kit_bool (h : TyOf K H x (.type n)) : PySem.W.kitOne K (.type n) (.type "bool") = some (isBlV x) := by
  cases h <;> first
    | exact (show PySem.W.kitOne K _ _ = some true from kb (by decide +kernel))
    | exact (show PySem.W.kitOne K _ _ = some false from kb (by decide +kernel))
end
section
variable {X : Cx}
noncomputable def Own (mg : Str → Option Value) (names : List Str) : Prop := ∀ x ∈ names, mg x = none
theorem boot_all' : bootBuiltins "all" = some (.builtin "all") := by decide +kernel
theorem pe_ty {x : Str} {T : String} {pos : Pos} (hg : Gl X x) (hm : X.mg x = none) (hv : bootBuiltins x = some (.type T)) (hn : x ≠ "__name__" := by decide) (hd : (x == ("__debug__" : Str)) = false := by decide) : PE X (.Name x pos) (tC (.ty T)) :=
  pe_bltn hg hm hv (show RelV (.ty T) (.type T) from rfl) hn hd
end
end L2
namespace L2
open PySem PySem.Spec PyProof.Rows
noncomputable def frOf (N : List Str) (scope : Scope) : List (Str × Nat) := scope.names.filterMap fun y => if y.2 = .free then (N.findIdx? fun n => decide (n = y.1)).map fun i => (y.1, i) else none
noncomputable def blkOk (sc : Scope) (N : List Str) (scope : Scope) (own : List Str) (fr : List (Str × Nat)) : Bool :=
  decide (scope.kind = .function) &&
  (scope.names.all fun y => decide (y.2 ≠ .cell) && (decide (y.2 ≠ .local) || decide (scope.names.lookup y.1 = some .local)) &&
    (decide (y.2 ≠ .free) || ((decide (sc.names.lookup y.1 = some .cell) || decide (sc.names.lookup y.1 = some .free)) && decide (scope.names.lookup y.1 = some .free)))) &&
  (fr.all fun p => decide (N[p.2]? = some p.1) && decide ((p.1, NameKind.free) ∈ scope.names)) &&
  (own.all fun x => decide (scope.names.lookup x = some .local)) && decide ((own ++ fr.map (·.1)).Nodup)
section
variable {X : Cx} {scope : Scope} {own : List Str} {fr : List (Str × Nat)}
theorem BlkScope.of (h : blkOk X.env.scope X.N scope own fr = true) : BlkScope X scope own fr := by
  unfold blkOk at h
  simp only [Bool.and_eq_true, List.all_eq_true, decide_eq_true_iff, Bool.or_eq_true] at h
  obtain ⟨⟨⟨⟨h1, h2⟩, h3⟩, h4⟩, h5⟩ := h
  exact ⟨h1, fun y hy => (h2 y hy).1.1, fun y hy e => (h2 y hy).1.2.resolve_left (fun z => z e), fun y hy e => ((h2 y hy).2.resolve_left (fun z => z e)).1, fun p hp => h3 p hp, fun x hx => ((h2 _ hx).2.resolve_left (fun z => z rfl)).2⟩
theorem blkOk_own (h : blkOk X.env.scope X.N scope own fr = true) : (∀ x ∈ own, scope.names.lookup x = some .local) ∧ (own ++ fr.map (·.1)).Nodup := by
  unfold blkOk at h
  simp only [Bool.and_eq_true, List.all_eq_true, decide_eq_true_iff, Bool.or_eq_true] at h
  exact ⟨h.1.2, h.2⟩
theorem pg_own {i : Nat} {x : Str} {px : Pos} (h : blkOk X.env.scope X.N scope own fr = true) (hi : own[i]? = some x) (C : Addr) (ex : List Addr) (s : Shared) (H : Hp) : PG (blkCx X scope own fr C ex s H) (.Name x px) (gName i) := by
  obtain ⟨h1, h2⟩ := blkOk_own h
  have hl : (relabel scope X.env).names.lookup x = some .local := lookup_relabel_local (h1 x (List.mem_of_getElem? hi))
  have hlt := (List.getElem?_eq_some_iff.mp hi).1
  refine pg_name h2 ?_ (.inl hl) (.inr hl)
  show (own ++ fr.map (·.1))[i]? = some x
  rw [List.getElem?_append_left hlt]
  exact hi
theorem pe_comp1 {elt iter : Expr} {x : Str} {px : Pos} {ifs : List Expr} {pos : Pos} {wi : TI} {tc : TT} {te : TE} (hi : PI X (.Name x px) iter wi)
    (ht : ∀ C ex s H, PTs (blkCx X scope [x] (frOf X.N scope) C ex s H) ifs tc) (he : ∀ C ex s H, PE (blkCx X scope [x] (frOf X.N scope) C ex s H) elt te)
    (hb : blkOk X.env.scope X.N scope [x] (frOf X.N scope) = true := by with_unfolding_all rfl) (hc : X.calm = true := by rfl)
    (hs : ∀ x, foldedSetIterable iter X.env x = pure x := by intro _; rfl) : PE X (.ListComp elt [⟨.Name x px, iter, ifs, 0⟩] scope pos) (tComp wi [x] (frOf X.N scope) (gName 0) tc te) :=
  pe_comp hc (.of hb) hi (fun C ex s H => pg_own hb rfl C ex s H) ht he hs
theorem ps_comp1 {i : Nat} {y x : Str} {py px spos : Pos} {elt iter : Expr} {ifs : List Expr} {pos : Pos} {wi : TI} {tc : TT} {te : TE} (hN : X.N.Nodup) (hix : X.N[i]? = some y) (hx : Loc X.env.scope y) (hi : PI X (.Name x px) iter wi)
    (ht : ∀ C ex s H, PTs (blkCx X scope [x] (frOf X.N scope) C ex s H) ifs tc) (he : ∀ C ex s H, PE (blkCx X scope [x] (frOf X.N scope) C ex s H) elt te)
    (hb : blkOk X.env.scope X.N scope [x] (frOf X.N scope) = true := by with_unfolding_all rfl) (hc : X.calm = true := by rfl)
    (hsw : swapsWith (.ListComp elt [⟨.Name x px, iter, ifs, 0⟩] scope pos) (some (.Name y py)) spos.line X.env = pure true := by rfl)
    (hf : X.fn y = true ∨ X.env.scope.names.lookup y = some .local := by first | exact .inl rfl | exact .inr rfl | assumption)
    (hs : ∀ x, foldedSetIterable iter X.env x = pure x := by intro _; rfl) :
    PS X (.Assign [.Name y py] (.ListComp elt [⟨.Name x px, iter, ifs, 0⟩] scope pos) spos) (tAsg (tComp wi [x] (frOf X.N scope) (gName 0) tc te) (gName i)) :=
  ps_comp hN hix hx hc (.of hb) hi (fun C ex s H => pg_own hb rfl C ex s H) ht he hsw hf hs
end
end L2
namespace L2
open PySem PySem.Spec PyProof.Rows
noncomputable def rLen (K : PySem.W.Frag) : List V → Hp → VK → Prop := fun xs H Q => ∃ x n, xs = [x] ∧ LenV K x H n ∧ Q (.int n) H
noncomputable def rSum (K : PySem.W.Frag) : List V → Hp → VK → Prop := fun xs H Q => ∃ (p : Addr) (ns : List Int), xs = [.ref p] ∧ SqL K H p (ns.map V.int) ∧ Q (.int ns.sum) H
noncomputable def rAll (K : PySem.W.Frag) : List V → Hp → VK → Prop := fun xs H Q => ∃ (p : Addr) (bs : List Bool), xs = [.ref p] ∧ SqL K H p (bs.map V.bl) ∧ Q (.bl (bs.all id)) H
noncomputable def rIsin (K : PySem.W.Frag) : List V → Hp → VK → Prop := fun xs H Q => ∃ x n t b, xs = [x, .ty n] ∧ TyOf K H x t ∧ PySem.W.kitOne K t (.type n) = some b ∧ Q (.bl b) H
noncomputable def rListOf (K : PySem.W.Frag) : List V → Hp → VK → Prop := fun xs H Q => ∃ p ys, xs = [.ref p] ∧ (SqL K H p ys ∨ SqT K H p ys) ∧ ∀ l, H l = none → Q (.ref l) (upd H l (.lst ys))
noncomputable def rStrInt : List V → Hp → VK → Prop := fun xs H Q => ∃ i : Int, xs = [.int i] ∧ i.natAbs.log2 < 1920 ∧ Q (.str (toString i)) H
section
variable {X : Cx} {K : PySem.W.Frag}
theorem k_len (hK : X.K = K := by rfl) : CallR X (.builtin "len") (rLen K) := by subst hK; exact call_len
theorem k_sum (hK : X.K = K := by rfl) (hc : X.calm = true := by rfl) : CallR X (.builtin "sum") (rSum K) := by subst hK; exact call_sum hc
theorem k_all (hK : X.K = K := by rfl) (hc : X.calm = true := by rfl) : CallR X (.builtin "all") (rAll K) := by subst hK; exact call_all hc
theorem k_isin (hK : X.K = K := by rfl) : CallR X (.builtin "isinstance") (rIsin K) := by subst hK; exact call_isinst
theorem k_list (hK : X.K = K := by rfl) : CallR X (.type "list") (rListOf K) := by subst hK; exact call_list_of
theorem k_str : CallR X (.type "str") rStrInt := call_str_int
theorem k_ixl (hK : X.K = K := by rfl) : IxR X (rIxL K) := by subst hK; exact ix_list
theorem k_in (hK : X.K = K := by rfl) : OpR X (compareOp .In) (rIn K false) := by subst hK; exact op_in_seq
theorem k_cat (hK : X.K = K := by rfl) : OpR X (binaryOp .Add) (rCatS K) := by subst hK; exact op_catS
theorem k_nel (hu : X.A.units < cLine) (hK : X.K = K := by rfl) : OpR X (compareOp .NotEq) (rEqL K true) := by subst hK; exact op_neL hu
theorem k_sll (hK : X.K = K := by rfl) : SlR X (rSlL K) := by subst hK; exact sl_list
end
end L2
namespace L2
open PySem PySem.Spec PyProof.Rows
section
variable {X : Cx} {pins : List (Addr × Obj)} {σ : St} {H : Hp} {s : Shared} {h' : Heap}
theorem Inv.turnedL {t' : Nat} (ch : List Addr) (I : Inv X pins σ H s) (hf : ∀ b ∈ ch, FpOk X pins H b) (k : ∀ b o, b ∉ ch → s.heap.get? b = some o → h'.get? b = some o) : Inv X pins σ H { s with heap := h', toks := t' } := by
  have nit : ∀ b u, H b = some u → b ∉ ch := fun b u e z => by rw [(hf b z).1] at e; cases e
  refine I.step (g' := s.gens) (d' := s.drawn) (ch := ch) (fun b hb => ?_) (fun b o _ _ hc e _ => k b o hc e) (fun b o _ _ hc e _ => ⟨o.slots, k b o hc e⟩) (fun _ _ _ _ n => n)
    (fun b o hc e => ⟨o, k b o hc e⟩) (fun _ _ e => e) (fun _ _ _ e => e) (fun b ps e => ⟨#[], by rw [e]; simp⟩) (fun m hm => ?_) (fun b u e => ?_) I.bare
  · obtain ⟨f0, f1, f2, f3, f4, f5⟩ := hf b hb
    exact ⟨f3, f1, f4, f5⟩
  · obtain ⟨o, es, ep, ho, r⟩ := hm
    exact ⟨o, es, ep, k _ o (fun z => (hf _ z).2.1 rfl) ho, r⟩
  · refine (I.hok b u e).stay (fun c v hc q => k c v ?_ q) (fun _ q => q) fun _ _ q => q
    rcases hc with z | z
    · rw [z]; exact nit b u e
    · exact nit c _ z
end
noncomputable def Ite (K : PySem.W.Frag) (a : Addr) : It :=
  ⟨fun i H => ∃ xs x, SqL K H a xs ∧ xs[i]? = some x, fun i H v H' => ∃ p x, H p = none ∧ v = .ref p ∧ H' = upd H p (.tup [.int i, x]) ∧ ∀ xs, SqL K H a xs → xs[i]? = some x, fun i H => ∃ xs, SqL K H a xs ∧ xs.length ≤ i⟩
theorem fp_upd {X : Cx} {pins : List (Addr × Obj)} {H : Hp} {b p : Addr} {o : HO} (h : FpOk X pins H b) (n : b ≠ p) : FpOk X pins (upd H p o) b := ⟨by rw [upd_ne n]; exact h.1, h.2⟩
theorem turn_enum {P : Program} {w : World} {K : PySem.W.Frag} {elts : List Expr} {k : Nat} {pos : Pos} (a e it : Addr) (hne : e ≠ it) :
    Turn P w K (.Tuple elts k pos) (Ite K a) [e, it] e (fun i h => (∃ old, IsEnum h e it i old) ∧ h.IsListIter it a i) where
  mem := by simp
  obj := fun i h st b hb => by
    obtain ⟨⟨old, he⟩, o, eo, c, d⟩ := st
    rcases List.mem_cons.mp hb with z | z
    · subst z
      exact ⟨_, he, fun v z => by cases (show Data.fields _ = Data.cell v from z)⟩
    · have z : b = it := by simpa using z
      subst z
      exact ⟨o, eo, fun v z => by rw [d] at z; cases z⟩
  keep := fun i h h' st kp => by
    obtain ⟨⟨old, he⟩, hi⟩ := st
    exact ⟨⟨old, kp e (by simp) _ he⟩, hi.at fun o z => kp it (by simp) o z⟩
  item := by
    intro X hP hw hK hc i pins s σ H E I hf st hg
    subst hP hw hK
    obtain ⟨xs, x, hq, hx⟩ := hg
    obtain ⟨its, rv, p, hz⟩ := I.list hq
    obtain ⟨u, hu, ru⟩ := rv.get hx
    obtain ⟨⟨old, he⟩, hi⟩ := st
    have hel : e < s.heap.objs.size := Heap.lt_size he
    have hil : it < s.heap.objs.size := by obtain ⟨_, z, _⟩ := hi; exact Heap.lt_size z
    refine wpAny_pyNext_enum_item he hi p.isList (x := u) (by simpa using hu) hne fun h' ho hi' hT hsz hk => ?_
    have I0 := I.laid (h' := s.heap.push { cls := .type "tuple", data := .seq #[.int i s.toks, u] }) (a := s.heap.objs.size) (o := .tup [.int i, x]) (t' := s.toks + 1) (fun _ _ q => Heap.get?_push_of_some _ q) (Nat.le_refl _)
      ⟨(by show 2 ≤ sizeLine; decide), [.int i s.toks, u], .cons ⟨_, rfl⟩ (.cons ru .nil), ⟨_, Heap.get?_push_size _ rfl, rfl, _, rfl⟩⟩
    have f0 : ∀ b ∈ [e, it], FpOk X pins (upd H s.heap.objs.size (.tup [.int i, x])) b := fun b hb => fp_upd (hf b hb) (by
      rcases List.mem_cons.mp hb with z | z
      · rw [z]; exact Nat.ne_of_lt hel
      · rw [show b = it by simpa using z]; exact Nat.ne_of_lt hil)
    have I1 := Inv.turnedL (t' := s.toks + 1) (h' := h') [e, it] I0 f0 (fun b o hb z => by
      have hb1 : b ≠ e := fun q => hb (by simp [q])
      have hb2 : b ≠ it := fun q => hb (by simp [q])
      rcases Heap.get?_push_cases (show (s.heap.push { cls := .type "tuple", data := .seq #[.int i s.toks, u] }).get? b = some o from z) with ⟨q1, q2⟩ | q
      · rw [q1, q2]; exact hT
      · exact hk b o hb1 hb2 q)
    refine ⟨.ref s.heap.objs.size, rfl, wpAny_letOwnedTupleGo_enum (s := { s with heap := h', toks := s.toks + 1 }) ho fun h2 he2 sb => ?_⟩
    refine ⟨.ref s.heap.objs.size, _, Inv.turnedL (t' := s.toks + 1) (h' := h2) [e, it] I1 f0 (fun b o hb z => (sb.2 b fun q => hb (by simp [q])).trans z), rfl, ⟨_, x, I.fresh, rfl, rfl, fun ys hy => by rw [I.list_inj hy hq]; exact hx⟩, ⟨⟨u, by simpa using he2⟩, hi'.at fun o z => (sb.2 it hne.symm).trans z⟩, fun b hb => (f0 b hb).1⟩
  done := by
    intro X hP hw hK hc i pins s σ H E I hf st hg
    subst hP hw hK
    obtain ⟨xs, hq, hx⟩ := hg
    obtain ⟨its, rv, p, hz⟩ := I.list hq
    obtain ⟨⟨old, he⟩, hi⟩ := st
    have hl := rv.length
    exact wpAny_pyNext_enum_end (I.ok.hd hc) he hi p.isList (by simp; omega) fun h' eb => ⟨rfl, I.turnedL (t' := s.toks) [e, it] hf fun b o hb z => eb b o (fun q => hb (by simp [q])) z⟩
  self := fun _ _ _ _ _ st h => by
    obtain ⟨⟨old, he⟩, _⟩ := st
    exact wpAny_pyIter_enum he h
section
variable {X : Cx} {elts : List Expr} {k : Nat} {tpos : Pos} {K : PySem.W.Frag}
noncomputable def iEnum (K : PySem.W.Frag) (ta : TA) : TI := fun σ H R => ta σ H fun vs H1 => ∃ a, vs = [.ref a] ∧ (∃ xs, SqL K H1 a xs) ∧ R (Ite K a) H1
theorem boot_enum : bootBuiltins "enumerate" = some (.type "enumerate") := by decide +kernel
theorem pi_enum {l : Expr} {ta : TA} {p pos : Pos} (hg : Gl X "enumerate") (hm : X.mg "enumerate" = none) (ha : PA X [l] ta) (hK : X.K = K := by rfl) (hs : starEach [l] X.env = [(false, eval l X.env)] := by rfl) : PI X (.Tuple elts k tpos) (.Call (.Name "enumerate" p) [l] [] pos) (iEnum K ta) := by
  subst hK
  intro pins s σ H R I h
  refine Call_ (ld_blt I hg hm boot_enum (PyProof.Rows.callWith_type1 (thn (ha pos pins s σ H _ I h) fun us s1 ⟨vs, H1, I1, r1, q1⟩ => ?_) hs rfl))
  obtain ⟨a, e, ⟨xs, hq⟩, q⟩ := q1
  subst e
  cases r1 with
  | cons r rr =>
    cases rr
    cases r
    obtain ⟨its, rv, pl, hz⟩ := I1.list hq
    refine call_enumerate_list pl.isList fun h' he hi hsz hk => ?_
    refine wpAny_pyIter_enum he ?_
    have I2 := I1.kept (t' := s1.toks) hk
    refine ⟨s1.heap.objs.size + 1, [s1.heap.objs.size + 1, s1.heap.objs.size], _, _, H1, rfl, I2, turn_enum a _ _ (Nat.succ_ne_self _), ⟨⟨_, he⟩, hi⟩, fun b hb => ?_, q⟩
    have hb' : s1.heap.objs.size ≤ b := by
      rcases List.mem_cons.mp hb with z | z
      · rw [z]; exact Nat.le_succ _
      · have z : b = s1.heap.objs.size := by simpa using z
        rw [z]; exact Nat.le_refl _
    exact I1.fpOk hb' (I1.hok.fresh hb')
end
section
variable {X : Cx} {elts : List Expr} {k : Nat} {tpos : Pos} {K : PySem.W.Frag}
end
end L2
namespace L2
open PySem PySem.Spec PyProof.Rows
noncomputable def SrcIt (tp : Bool) (h : Heap) (it l : Addr) (i : Nat) : Prop := if tp = true then h.IsTupleIter it l i else h.IsListIter it l i
noncomputable def SrcSq (tp : Bool) (h : Heap) (l : Addr) (xs : Array Value) : Prop := if tp = true then h.IsTuple l xs else h.IsList l xs
theorem srcIt_at {tp : Bool} {h h' : Heap} {it l : Addr} {i : Nat} (x : SrcIt tp h it l i) (k : ∀ o, h.get? it = some o → h'.get? it = some o) : SrcIt tp h' it l i := by
  cases tp with
  | false => obtain ⟨o, e, r⟩ := (show h.IsListIter it l i from x); exact (show h'.IsListIter it l i from ⟨o, k o e, r⟩)
  | true => obtain ⟨o, e, r⟩ := (show h.IsTupleIter it l i from x); exact (show h'.IsTupleIter it l i from ⟨o, k o e, r⟩)
theorem srcSq_at {tp : Bool} {h h' : Heap} {l : Addr} {xs : Array Value} (x : SrcSq tp h l xs) (k : ∀ o, h.get? l = some o → h'.get? l = some o) : SrcSq tp h' l xs := by
  cases tp with
  | false => obtain ⟨o, e, r⟩ := (show h.IsList l xs from x); exact (show h'.IsList l xs from ⟨o, k o e, r⟩)
  | true => obtain ⟨o, e, r⟩ := (show h.IsTuple l xs from x); exact (show h'.IsTuple l xs from ⟨o, k o e, r⟩)
theorem srcIt_obj {tp : Bool} {h : Heap} {it l : Addr} {i : Nat} (x : SrcIt tp h it l i) : ∃ o, h.get? it = some o ∧ o.data = .fields #[.ref l, .int i 0] := by
  cases tp with
  | false => obtain ⟨o, e, _, d⟩ := (show h.IsListIter it l i from x); exact ⟨o, e, d⟩
  | true => obtain ⟨o, e, _, d⟩ := (show h.IsTupleIter it l i from x); exact ⟨o, e, d⟩
theorem srcSq_obj {tp : Bool} {h : Heap} {l : Addr} {xs : Array Value} (x : SrcSq tp h l xs) : ∃ o n, h.get? l = some o ∧ o.data = .seq xs n := by
  cases tp with
  | false => obtain ⟨o, e, _, n, d⟩ := (show h.IsList l xs from x); exact ⟨o, n, e, d⟩
  | true => obtain ⟨o, e, _, n, d⟩ := (show h.IsTuple l xs from x); exact ⟨o, n, e, d⟩
section
variable {prog : Program} {w : World} {A : Around} {E : Value → Shared → Prop} {s : Shared}
theorem src_item {tp : Bool} {it l : Addr} {i : Nat} {xs : Array Value} {x : Value} {Q : Value → Shared → Prop} (ht : SrcIt tp s.heap it l i) (hq : SrcSq tp s.heap l xs) (hx : xs[i]? = some x)
    (k : ∀ h', SrcIt tp h' it l (i + 1) → Heap.SameBut it s.heap h' → Q x { s with heap := h' }) : wpAny (model prog w) A (Builtin.SmallTypes.nextOf (.ref it)) Q E s := by
  cases tp with
  | false => exact wpAny_nextOf_list_item (show s.heap.IsListIter it l i from ht) (show s.heap.IsList l xs from hq) hx k
  | true =>
    have ht : s.heap.IsTupleIter it l i := ht
    obtain ⟨ob, eb, cb, db⟩ := id ht
    obtain ⟨ol, el, _, nl, dl⟩ := (show s.heap.IsTuple l xs from hq)
    unfold Builtin.SmallTypes.nextOf
    refine wpAny_bind (wpAny_callSpecial?_slot (name := Str.ofString "__next__") ht.typeIs F.slot_tuple_iterator_next (wpAny_call_entry F.slot_tuple_iterator_next ht.typeIs F.entry_tuple_iterator_next ?_ (F.args_tuple_iterator_next_1 _)))
    show wpAny _ _ (field (.ref it) 0 >>= _) _ _ s
    refine wpAny_bind (wpAny_field eb db (x := .ref l) rfl ?_)
    show wpAny _ _ (if (Value.ref l == Value.none) = true then _ else _) _ _ s
    rw [if_neg (show ¬ ((Value.ref l == Value.none) = true) from Bool.false_ne_true)]
    show wpAny _ _ (field (.ref it) 1 >>= _) _ _ s
    refine wpAny_bind (wpAny_field eb db (x := .int i 0) rfl ?_)
    show wpAny _ _ (seqItems? (.ref l) >>= _) _ _ s
    refine wpAny_bind (wpAny_seqItems el dl ?_)
    simp only [Int.toNat_natCast, hx]
    refine wpAny_bind (wpAny_setField eb db (by simp) (wpAny_pure ⟨x, rfl, wpAny_pure (k _ ?_ (Heap.SameBut.update ..))⟩))
    exact (show Heap.IsTupleIter _ it l (i + 1) from ⟨_, Heap.get?_update_self _ eb (Obj.isFreed_of_fields (Obj.data_mapFields db _)), (Obj.cls_mapFields ..).trans cb, by rw [Obj.data_mapFields db]; simp [rawInt]⟩)
theorem src_end {tp : Bool} {it l : Addr} {i : Nat} {xs : Array Value} {Q : Value → Shared → Prop} (hh : A.handled = none) (ht : SrcIt tp s.heap it l i) (hq : SrcSq tp s.heap l xs) (hx : xs[i]? = none)
    (k : ∀ h' e, Heap.ExtBut it s.heap h' → (∃ o, h'.get? e = some o ∧ o.cls = .type "StopIteration") → E (.ref e) { s with heap := h' }) : wpAny (model prog w) A (Builtin.SmallTypes.nextOf (.ref it)) Q E s := by
  cases tp with
  | false => exact wpAny_nextOf_list_end hh (show s.heap.IsListIter it l i from ht) (show s.heap.IsList l xs from hq) hx k
  | true =>
    have ht : s.heap.IsTupleIter it l i := ht
    obtain ⟨ob, eb, cb, db⟩ := id ht
    obtain ⟨ol, el, _, nl, dl⟩ := (show s.heap.IsTuple l xs from hq)
    unfold Builtin.SmallTypes.nextOf
    refine wpAny_bind (wpAny_callSpecial?_slot (name := Str.ofString "__next__") ht.typeIs F.slot_tuple_iterator_next (wpAny_call_entry F.slot_tuple_iterator_next ht.typeIs F.entry_tuple_iterator_next ?_ (F.args_tuple_iterator_next_1 _)))
    show wpAny _ _ (field (.ref it) 0 >>= _) _ _ s
    refine wpAny_bind (wpAny_field eb db (x := .ref l) rfl ?_)
    show wpAny _ _ (if (Value.ref l == Value.none) = true then _ else _) _ _ s
    rw [if_neg (show ¬ ((Value.ref l == Value.none) = true) from Bool.false_ne_true)]
    show wpAny _ _ (field (.ref it) 1 >>= _) _ _ s
    refine wpAny_bind (wpAny_field eb db (x := .int i 0) rfl ?_)
    show wpAny _ _ (seqItems? (.ref l) >>= _) _ _ s
    refine wpAny_bind (wpAny_seqItems el dl ?_)
    simp only [Int.toNat_natCast, hx]
    refine wpAny_bind (wpAny_rule (wpAny_bind (wpAny_setField eb db (by simp) ?_)))
    show wpAny _ _ (newExc (.type "StopIteration") [] >>= _) _ _ _
    refine wpAny_bind ?_
    simp only [newExc, newTuple]
    refine wpAny_bind (wpAny_newObj_type ?_ (by size_fits))
    refine wpAny_bind (m := firstArgMember _ _) (wpAny_of_eq (a := Value.none) (by first | rfl | (simp only [firstArgMember]; rfl)) ?_)
    refine wpAny_newObj_type ?_ (by size_fits)
    simp only [raiseNew]
    refine wpAny_bind (wpAny_handled ?_)
    first | rw [show A.in1.handled = none from hh] | rw [hh]
    exact wpAny_bind (wpAny_pure (wpAny_throw (k _ _ (((Heap.SameBut.update ..).extBut.push _).push _) ⟨_, Heap.get?_push_size _ rfl, rfl⟩)))
end
section
variable {prog : Program} {w : World} {A : Around} {E : Value → Shared → Prop} {s : Shared}
structure ZipSt (t1 t2 : Bool) (h : Heap) (z TI TO i1 i2 l1 l2 : Addr) (k : Nat) : Prop where
  hz : IsZip h z TI TO .none
  hTI : IsPair h TI (.ref i1) (.ref i2)
  hTO : ∃ c d, IsPair h TO c d
  h1 : SrcIt t1 h i1 l1 k
  h2 : SrcIt t2 h i2 l2 k
noncomputable def srcTy (tp : Bool) : String := if tp = true then "tuple_iterator" else "list_iterator"
theorem src_iter {tp : Bool} {l : Addr} {xs : Array Value} {Q : Value → Shared → Prop} (hq : SrcSq tp s.heap l xs) (k : Q (.ref s.heap.objs.size) { s with heap := s.heap.push { cls := .type (srcTy tp), data := .fields #[.ref l, .int 0 0] } }) :
    wpAny (model prog w) A (pyIter (.ref l)) Q E s := by
  cases tp with
  | false => exact wpAny_pyIter_list (show s.heap.IsList l xs from hq) k
  | true => exact wpAny_pyIter_tuple (show s.heap.IsTuple l xs from hq) k
theorem srcIt_new {tp : Bool} {h : Heap} {l : Addr} : SrcIt tp (h.push { cls := .type (srcTy tp), data := .fields #[.ref l, .int 0 0] }) h.objs.size l 0 := by
  cases tp with
  | false => exact (show Heap.IsListIter _ _ l 0 from ⟨_, Heap.get?_push_size _ rfl, rfl, rfl⟩)
  | true => exact (show Heap.IsTupleIter _ _ l 0 from ⟨_, Heap.get?_push_size _ rfl, rfl, rfl⟩)
end
noncomputable def SqS (tp : Bool) (K : PySem.W.Frag) (H : Hp) (a : Addr) (xs : List V) : Prop := if tp = true then SqT K H a xs else SqL K H a xs
theorem sqS_src {X : Cx} {pins : List (Addr × Obj)} {σ : St} {H : Hp} {s : Shared} {tp : Bool} {a : Addr} {xs : List V} (I : Inv X pins σ H s) (h : SqS tp X.K H a xs) : ∃ its : List Value, Vals xs its ∧ SrcSq tp s.heap a its.toArray := by
  cases tp with
  | false =>
    obtain ⟨its, r, p, _⟩ := I.list (show SqL X.K H a xs from h)
    exact ⟨its, r, (show s.heap.IsList a its.toArray from p.isList)⟩
  | true =>
    obtain ⟨its, r, p, _⟩ := I.tuple (show SqT X.K H a xs from h)
    exact ⟨its, r, (show s.heap.IsTuple a its.toArray from p)⟩
theorem sqS_inj {X : Cx} {pins : List (Addr × Obj)} {σ : St} {H : Hp} {s : Shared} {tp : Bool} {a : Addr} {xs ys : List V} (I : Inv X pins σ H s) (h : SqS tp X.K H a xs) (h2 : SqS tp X.K H a ys) : xs = ys := by
  cases tp with
  | false => exact I.list_inj h h2
  | true => exact I.tuple_inj h h2
section
variable {X : Cx} {elts : List Expr} {k : Nat} {tpos : Pos} {K : PySem.W.Frag}
end
end L2
namespace L2
open PySem PySem.Spec PyProof.Rows
section
variable {X : Cx} {K : PySem.W.Frag}
theorem boot_list' : bootBuiltins "list" = some (.type "list") := by decide +kernel
theorem boot_min' : bootBuiltins "min" = some (.builtin "min") := by decide +kernel
theorem k_gtup {es : List Expr} {k : Nat} {t : TGs} {n : Nat} {pos : Pos} (hc : X.calm = true) (h : PGs X es t) (hK : X.K = K := by rfl)
    (hn : (assignEach es X.env).length = n := by rfl) (hst : (assignEach es X.env).findIdx? (·.1) = none := by rfl) : PG X (.Tuple es k pos) (gTup K n t) := by
  subst hK
  exact pg_tup hc h hn hst
variable {scope : Scope} {fr : List (Str × Nat)}
end
section
variable {K : PySem.W.Frag} {D : Addr} {σ0 : St} {tc : TT} {te : TE} {Q : VK} {H : Hp}
end
end L2
namespace L2
open PySem PySem.Spec PyProof.Rows
inductive Dt where
  | non | bl (b : Bool) | int (i : Int) | str (z : Str) | lst (xs : List Dt) | tup (xs : List Dt)
inductive Rp (H : Hp) (F : Addr → Prop) : Nat → V → Dt → Prop where
  | non {n : Nat} : Rp H F n .non .non
  | bl {n : Nat} (b : Bool) : Rp H F n (.bl b) (.bl b)
  | int {n : Nat} (i : Int) : Rp H F n (.int i) (.int i)
  | str {n : Nat} (z : Str) : Rp H F n (.str z) (.str z)
  | lst {n : Nat} {a : Addr} {vs : List V} {ds : List Dt} (h : H a = some (.lst vs)) (f : F a) (b : vs.length ≤ 100000) (l : vs.length = ds.length) (e : ∀ (i : Nat) (v : V) (d : Dt), vs[i]? = some v → ds[i]? = some d → Rp H F n v d) : Rp H F (n + 1) (.ref a) (.lst ds)
  | tup {n : Nat} {a : Addr} {vs : List V} {ds : List Dt} (h : H a = some (.tup vs)) (b : vs.length ≤ 100000) (l : vs.length = ds.length) (e : ∀ (i : Nat) (v : V) (d : Dt), vs[i]? = some v → ds[i]? = some d → Rp H F n v d) : Rp H F (n + 1) (.ref a) (.tup ds)
theorem Rp.mono {H H' : Hp} {F F' : Addr → Prop} {n : Nat} {v : V} {d : Dt} (r : Rp H F n v d) (k : ∀ a o, H a = some o → (∀ xs, o = .lst xs → F a) → H' a = some o) (f : ∀ a, F a → F' a) : Rp H' F' n v d := by
  induction r with
  | non => exact .non
  | bl b => exact .bl b
  | int i => exact .int i
  | str z => exact .str z
  | lst h p b l e ih => exact .lst (k _ _ h fun _ _ => p) (f _ p) b l fun i v d h1 h2 => ih i v d h1 h2
  | tup h b l e ih => exact .tup (k _ _ h fun xs q => by cases q) b l fun i v d h1 h2 => ih i v d h1 h2
theorem Rp.same {H H' : Hp} {F : Addr → Prop} {n : Nat} {v : V} {d : Dt} (r : Rp H F n v d) (s : Same H H') : Rp H' F n v d := r.mono (fun a o h _ => s a o h) fun _ h => h
theorem Rp.imp {H : Hp} {F F' : Addr → Prop} {n : Nat} {v : V} {d : Dt} (r : Rp H F n v d) (f : ∀ a, F a → F' a) : Rp H F' n v d := r.mono (fun a o h _ => h) f
noncomputable abbrev FN (H : Hp) : Addr → Prop := fun a => H a = none
end L2
namespace L2
open PySem PySem.Spec PyProof.Rows
section
variable {t u : TS} {D : Ends} {σ : St} {H : Hp} {te ta tb tk : TE} {tt tu : TT} {g : TG} {Q : VK} {QT : Bool → Hp → Prop} {QA : List V → Hp → Prop} {i : Nat} {v x y : V} {r : R2} {tr : TA} {K : PySem.W.Frag}
theorem rd_seq (h : t { D with nx := u D } σ H) : tSeq t u D σ H := h
theorem rd_next (h : D.nx σ H) : tNext D σ H := h
theorem rd_asg (h : te σ H fun x H1 => g x σ H1 D.nx) : tAsg te g D σ H := h
theorem rd_name {QS : St → Hp → Prop} (h : QS (σ.set i (some v)) H) : gName i v σ H QS := h
theorem rd_var (e : σ[i]? = some (some v)) (h : Q v H) : tVar i σ H Q := ⟨v, e, h⟩
theorem rd_c (h : Q v H) : tC v σ H Q := h
theorem rd_op (h : ta σ H fun x H1 => tb σ H1 fun y H2 => r x y H2 Q) : tOp r ta tb σ H Q := h
theorem rd_un {ru : V → Hp → VK → Prop} (h : ta σ H fun x H1 => ru x H1 Q) : tUn ru ta σ H Q := h
theorem rd_rI {C : Int → Int → Prop} {gg : Int → Int → V} {a b : Int} (c : C a b) (h : Q (gg a b) H) : rI C gg (.int a) (.int b) H Q := ⟨a, b, rfl, rfl, c, h⟩
theorem rd_rI0 {gg : Int → Int → V} {a b : Int} (h : Q (gg a b) H) : rI0 gg (.int a) (.int b) H Q := ⟨a, b, rfl, rfl, h⟩
theorem rd_rU {gg : Int → V} {a : Int} (h : Q (gg a) H) : rU gg (.int a) H Q := ⟨a, rfl, h⟩
theorem rd_eqI {a b : Int} (h : Q (.bl (decide (a = b))) H) : rEq (.int a) (.int b) H Q := ⟨rfl, by rw [show decide (V.int a = V.int b) = decide (a = b) by rw [Bool.eq_iff_iff]; simp]; exact h⟩
theorem rd_neI {a b : Int} (h : Q (.bl (!decide (a = b))) H) : rNe (.int a) (.int b) H Q := ⟨rfl, by rw [show decide (V.int a = V.int b) = decide (a = b) by rw [Bool.eq_iff_iff]; simp]; exact h⟩
theorem rd_eqS {a b : Str} (h : Q (.bl (decide (a = b))) H) : rEq (.str a) (.str b) H Q := ⟨rfl, by rw [show decide (V.str a = V.str b) = decide (a = b) by rw [Bool.eq_iff_iff]; simp]; exact h⟩
theorem rd_not (h : tt σ H fun c H1 => QT (!c) H1) : tNot tt σ H QT := h
theorem rd_test (h : te σ H fun x H' => ∃ k, x = .bl k ∧ QT k H') : tTest te σ H QT := h
theorem rd_tB (h : te σ H fun x H' => ∃ k, x = .bl k ∧ QT k H') : tB te σ H QT := h
theorem rd_bl {b : Bool} {R : Bool → Prop} (h : R b) : ∃ k, V.bl b = .bl k ∧ R k := ⟨b, rfl, h⟩
theorem rd_or (h : tt σ H fun c H1 => if c = true then QT true H1 else tu σ H1 QT) : tOr tt tu σ H QT := h
theorem rd_and (h : tt σ H fun c H1 => if c = true then tu σ H1 QT else QT false H1) : tAnd tt tu σ H QT := h
theorem rd_andV (h : ta σ H fun x H1 => ∃ c, x = .bl c ∧ if c = true then tb σ H1 Q else Q (.bl false) H1) : tAndV ta tb σ H Q := h
theorem rd_notV (h : ta σ H fun x H1 => ∃ c, x = .bl c ∧ Q (.bl (!c)) H1) : tNotV ta σ H Q := h
theorem rd_ifS (h : tt σ H fun b H1 => if b = true then t D σ H1 else u D σ H1) : tIfS tt t u D σ H := h
theorem rd_ret (h : te σ H D.rt) : tRet te D σ H := h
theorem rd_drop (h : te σ H fun _ H1 => D.nx σ H1) : tDrop te D σ H := h
theorem rd_nil (h : QA [] H) : tNil σ H QA := h
theorem rd_cons (h : te σ H fun x H1 => tr σ H1 fun xs H2 => QA (x :: xs) H2) : tCons te tr σ H QA := h
theorem rd_lst (h : tr σ H fun xs H1 => xs.length ≤ sizeLine ∧ ∀ p, H1 p = none → Q (.ref p) (upd H1 p (.lst xs))) : tLst tr σ H Q := h
theorem rd_tup (h : tr σ H fun xs H1 => xs.length ≤ sizeLine ∧ ∀ p, H1 p = none → Q (.ref p) (upd H1 p (.tup xs))) : tTup tr σ H Q := h
theorem rd_cb {rr : List V → Hp → VK → Prop} (h : tr σ H fun vs H1 => rr vs H1 Q) : tCB rr tr σ H Q := h
theorem rd_call {sp : Sp} {E : XK} (h : tr σ H fun vs H1 => sp vs H1 Q E) : tCall sp [] E tr σ H Q := by
  unfold tCall
  simpa using h
theorem rd_sl {rs : V → Option Int → Option Int → Hp → VK → Prop} {tl th : TO} (h : te σ H fun x H1 => tl σ H1 fun l H2 => th σ H2 fun u H3 => rs x l u H3 Q) : tSl rs te tl th σ H Q := h
theorem rd_part {QO : Option Int → Hp → Prop} (h : te σ H fun x H1 => ∃ i, x = .int i ∧ QO (some i) H1) : tPart te σ H QO := h
theorem rd_noPart {QO : Option Int → Hp → Prop} (h : QO none H) : tNoPart σ H QO := h
theorem rd_int {a : Int} {R : Int → Prop} (h : R a) : ∃ k, V.int a = .int k ∧ R k := ⟨a, rfl, h⟩
theorem rd_slS {z : Str} {lo hi : Option Int} (c : z.length ≤ sizeLine) (h : Q (.str (Txt.slice z lo hi)) H) : rSlS (.str z) lo hi H Q := ⟨z, rfl, c, h⟩
theorem rd_slL {p : Addr} {xs : List V} {lo hi : Option Int} (c : SqL K H p xs) (h : ∀ q, H q = none → Q (.ref q) (upd H q (.lst (cutV xs lo hi)))) : rSlL K (.ref p) lo hi H Q := ⟨p, xs, rfl, c, h⟩
theorem rd_lenS {z : Str} (c : z.length ≤ sizeLine) (h : Q (.int z.length) H) : rLen K [.str z] H Q := ⟨_, _, rfl, ⟨c, rfl⟩, h⟩
theorem rd_lenL {p : Addr} {xs : List V} (c : SqL K H p xs) (h : Q (.int xs.length) H) : rLen K [.ref p] H Q := ⟨_, _, rfl, .inl ⟨xs, c, rfl⟩, h⟩
theorem rd_sum {p : Addr} {ns : List Int} (c : SqL K H p (ns.map V.int)) (h : Q (.int ns.sum) H) : rSum K [.ref p] H Q := ⟨p, ns, rfl, c, h⟩
theorem rd_all {p : Addr} {bs : List Bool} (c : SqL K H p (bs.map V.bl)) (h : Q (.bl (bs.all id)) H) : rAll K [.ref p] H Q := ⟨p, bs, rfl, c, h⟩
theorem rd_isin {n : String} {ty : Value} {b : Bool} (c : TyOf K H x ty) (e : PySem.W.kitOne K ty (.type n) = some b) (h : Q (.bl b) H) : rIsin K [x, .ty n] H Q := ⟨x, n, ty, b, rfl, c, e, h⟩
theorem rd_ixL {p : Addr} {xs : List V} {k : Int} (c : SqL K H p xs) (e : atI xs k = some v) (h : Q v H) : rIxL K (.ref p) (.int k) H Q := ⟨p, xs, k, v, rfl, rfl, c, e, h⟩
theorem rd_len {xs : List V} {B : Prop} (c : xs.length ≤ 1000) (h : B) : xs.length ≤ sizeLine ∧ B := ⟨Nat.le_trans c (by decide), h⟩
end
theorem iteP {p A B : Prop} [Decidable p] (h1 : p → A) (h2 : ¬ p → B) : if decide p = true then A else B := by
  by_cases h : p
  · rw [if_pos (decide_eq_true h)]; exact h1 h
  · rw [if_neg (fun q => h (of_decide_eq_true q))]; exact h2 h
theorem iteN {p A B : Prop} [Decidable p] (h1 : ¬ p → A) (h2 : p → B) : if (!decide p) = true then A else B := by
  by_cases h : p
  · rw [decide_eq_true h]; exact iteF (h2 h)
  · rw [decide_eq_false h]; exact iteT (h1 h)
theorem iteB {b : Bool} {A B : Prop} (h1 : b = true → A) (h2 : b = false → B) : if b = true then A else B := by
  cases b with
  | true => exact iteT (h1 rfl)
  | false => exact iteF (h2 rfl)
theorem SqS.same {K : PySem.W.Frag} {H H' : Hp} {tp : Bool} {p : Addr} {xs : List V} (c : SqS tp K H p xs) (s : Same H H') : SqS tp K H' p xs := by
  cases tp with
  | false => exact (show SqL K H' p xs from s.seq c)
  | true =>
    rcases (show SqT K H p xs from c) with (q | ⟨o, q⟩) | q
    · exact (show SqT K H' p xs from .inl (.inl (s _ _ q)))
    · exact (show SqT K H' p xs from .inl (.inr ⟨o, s _ _ q⟩))
    · exact (show SqT K H' p xs from .inr q)
theorem same_new {H : Hp} {p : Addr} {o : HO} (h : H p = none) : Same H (upd H p o) := fun b u e => by rw [upd_ne (ne_of_none e h)]; exact e
theorem same_at {H H' : Hp} {D : Addr} {o : HO} (s : Same H H') (h : H D = none) : Same H (upd H' D o) := fun b u e => by rw [upd_ne (ne_of_none e h)]; exact s b u e
end L2
namespace L2
open PySem PySem.Spec PyProof.Rows
structure SrcOk (J : It) (g : TG) (σ0 : St) (H : Hp) (n : Nat) (st : Nat → St) : Prop where
  go : ∀ i H', i < n → Same H H' → J.go i H'
  stop : ∀ H', Same H H' → J.stop n H'
  yld : ∀ i H' x H'' (R : St → Hp → Prop), i < n → Same H H' → J.yld i H' x H'' → (∀ H3, Same H' H3 → R (st i) H3) → g x σ0 H'' R
  kp : ∀ i, i < n → Kp σ0 (st i)
section
variable {J : It} {g : TG} {σ0 : St} {H : Hp} {n : Nat} {st : Nat → St} {tc : TT} {te : TE} {Q : VK} {D : Addr}
theorem Rp.off {H : Hp} {F : Addr → Prop} {m : Nat} {v : V} {d : Dt} {D : Addr} {xs : List V} {o : HO} (r : Rp H F m v d) (hD : H D = some (.lst xs)) (hF : ¬ F D) : Rp (L2.upd H D o) F m v d := by
  refine r.mono (fun a u e q => ?_) fun _ h => h
  have n : a ≠ D := fun z => by
    subst z
    rw [hD] at e
    cases e
    exact hF (q _ rfl)
  rw [upd_ne n]
  exact e
theorem comp_data {m : Nat} {p : Nat → Bool} {G : Nat → Dt} (S : SrcOk J g σ0 H n st) (hD : H D = none) (hn : n ≤ 100000)
    (ht : ∀ i H' (R : Bool → Hp → Prop), i < n → Same H H' → (∀ H3, Same H' H3 → R (p i) H3) → tc (st i) H' R)
    (he : ∀ i H' (R : VK), i < n → p i = true → Same H H' → (∀ H3 y, Same H' H3 → Rp H3 (FN H') m y (G i) → R y H3) → te (st i) H' R)
    (hd : ∀ H' ys, Same H H' → H' D = some (.lst ys) → Rp H' (FN H) (m + 1) (.ref D) (.lst (((List.range n).filter p).map G)) → Q (.ref D) H') :
    CompW J σ0 g tc te Q H D := by
  refine ⟨fun i k ys H' => k = n - i ∧ i ≤ n ∧ Same H H' ∧ H' D = some (.lst ys) ∧ ys.length = (((List.range i).filter p).map G).length ∧ ∀ (j : Nat) (y : V) (d : Dt), ys[j]? = some y → (((List.range i).filter p).map G)[j]? = some d → Rp H' (fun a => H a = none ∧ a ≠ D) m y d,
    ⟨_, rfl, Nat.zero_le _, same_at (Same.refl _) hD, upd_same, rfl, fun j y d q => by simp at q⟩, ?_⟩
  rintro i k ys H1 ⟨rfl, hi, s1, hl, len, el⟩
  have bnd : ∀ i, (((List.range i).filter p).map G).length ≤ i := fun i => by
    rw [List.length_map]
    exact Nat.le_trans (List.length_filter_le _ _) (by simp)
  by_cases hlt : i < n
  · refine .inr ⟨S.go i H1 hlt s1, fun ys' H' => Same H H' ∧ H' D = some (.lst ys') ∧ ys'.length = (((List.range (i + 1)).filter p).map G).length ∧ ∀ (j : Nat) (y : V) (d : Dt), ys'[j]? = some y → (((List.range (i + 1)).filter p).map G)[j]? = some d → Rp H' (fun a => H a = none ∧ a ≠ D) m y d,
      fun ys' H' q => ⟨n - (i + 1), by omega, rfl, hlt, q⟩, fun x H2 y => ?_⟩
    refine S.yld i H1 x H2 _ hlt s1 y fun H3 s3 => ⟨S.kp i hlt, ?_⟩
    refine ht i H3 _ hlt (s1.trans s3) fun H4 s4 => ?_
    have hl4 : H4 D = some (.lst ys) := s4 _ _ (s3 _ _ hl)
    have s14 : Same H H4 := s1.trans (s3.trans s4)
    cases hp : p i with
    | false =>
      refine iteF ⟨s14, hl4, ?_, ?_⟩
      · rw [List.range_succ, List.filter_append, List.filter_cons, hp]
        simpa using len
      · intro j y d h1 h2
        have e : ((List.range (i + 1)).filter p).map G = ((List.range i).filter p).map G := by
          rw [List.range_succ, List.filter_append, List.filter_cons, hp]
          simp
        rw [e] at h2
        exact (el j y d h1 h2).same (s3.trans s4)
    | true =>
      refine iteT ?_
      refine he i H4 _ hlt hp s14 fun H5 y s5 ry => ?_
      have hl5 : H5 D = some (.lst ys) := s5 _ _ hl4
      have e : ((List.range (i + 1)).filter p).map G = ((List.range i).filter p).map G ++ [G i] := by
        rw [List.range_succ, List.filter_append, List.filter_cons, hp]
        simp
      refine ⟨hl5, ?_, ?_, upd_same, ?_, ?_⟩
      · have := bnd i
        exact Nat.lt_of_le_of_lt (by omega : ys.length ≤ 100000) (by decide)
      · exact same_at (s14.trans s5) hD
      · rw [e, List.length_append, List.length_append, len]
        rfl
      · intro j z d h1 h2
        rw [e] at h2
        have nF : ¬ (H D = none ∧ D ≠ D) := fun q => q.2 rfl
        by_cases hj : j < ys.length
        · rw [List.getElem?_append_left hj] at h1
          rw [List.getElem?_append_left (by omega)] at h2
          exact ((el j z d h1 h2).same (s3.trans (s4.trans s5))).off hl5 nF
        · have ej : j = ys.length := by
            have := (List.getElem?_eq_some_iff.mp h1).1
            rw [List.length_append] at this
            have : ([y] : List V).length = 1 := rfl
            omega
          subst ej
          rw [List.getElem?_append_right (Nat.le_refl _), Nat.sub_self] at h1
          rw [len, List.getElem?_append_right (Nat.le_refl _), Nat.sub_self] at h2
          cases h1
          cases h2
          refine (ry.imp (F' := fun a => H a = none ∧ a ≠ D) fun a ha => ⟨s14.free ha, fun q => ?_⟩).off hl5 nF
          subst q
          rw [show H4 a = none from ha] at hl4
          cases hl4
  · have e : i = n := by omega
    subst e
    refine .inl ⟨S.stop H1 s1, hd H1 ys s1 hl (.lst hl hD ?_ len fun j y d h1 h2 => (el j y d h1 h2).imp fun a q => q.1)⟩
    have := bnd i
    omega
theorem comp_map {m : Nat} {G : Nat → Dt} (S : SrcOk J g σ0 H n st) (hD : H D = none) (hn : n ≤ 100000)
    (he : ∀ i H' (R : VK), i < n → Same H H' → (∀ H3 y, Same H' H3 → Rp H3 (FN H') m y (G i) → R y H3) → te (st i) H' R)
    (hd : ∀ H' ys, Same H H' → H' D = some (.lst ys) → Rp H' (FN H) (m + 1) (.ref D) (.lst ((List.range n).map G)) → Q (.ref D) H') :
    CompW J σ0 g tYes te Q H D := by
  refine comp_data (p := fun _ => true) (m := m) (G := G) S hD hn (fun i H' R _ _ k => k H' (Same.refl _)) (fun i H' R hi _ s k => he i H' R hi s k) fun H' ys s hl r => hd H' ys s hl ?_
  have e : (List.range n).filter (fun _ => true) = List.range n := by simp
  rw [e] at r
  exact r
variable {K : PySem.W.Frag} {a b : Addr} {xs zs : List V}
theorem src_range {lo : Int} {n : Nat} (h0 : σ0[0]? = some none) : SrcOk (Itr lo n) (gName 0) σ0 H n (fun i => σ0.set 0 (some (.int (lo + i)))) where
  go := fun i H' hi s => hi
  stop := fun H' s => Nat.le_refl _
  yld := fun i H' x H'' R hi s y k => by
    obtain ⟨e, hv⟩ := y
    subst e hv
    exact k _ (Same.refl _)
  kp := fun i hi => (Kp.refl _).set h0
theorem src_str {z : Str} (h0 : σ0[0]? = some none) : SrcOk (Its z) (gName 0) σ0 H z.cps.size (fun i => σ0.set 0 (some (.str ⟨#[z.cps.toList.getD i 0]⟩))) where
  go := fun i H' hi s => hi
  stop := fun H' s => Nat.le_refl _
  yld := fun i H' x H'' R hi s y k => by
    obtain ⟨e, c, hc, hv⟩ := y
    subst e hv
    have e : c = z.cps.toList.getD i 0 := by
      rw [List.getD_eq_getElem?_getD, show z.cps.toList[i]? = some c by simpa using hc]
      rfl
    rw [e]
    exact k _ (Same.refl _)
  kp := fun i hi => (Kp.refl _).set h0
end
end L2
namespace L2
open PySem PySem.Spec PyProof.Rows
theorem rs_le (a b c : Int) (hc : c ≠ 0) : 0 ≤ Builtin.Range.rangeSize a b c ∧ Builtin.Range.rangeSize a b c ≤ (b - a).natAbs := by
  unfold Builtin.Range.rangeSize
  split
  · rename_i h
    split
    · rename_i h2
      have h3 : 0 ≤ (b - a - 1) / c := Int.ediv_nonneg (by omega) (by omega)
      have h4 : (b - a - 1) / c ≤ b - a - 1 := Int.ediv_le_self _ (by omega)
      omega
    · omega
  · rename_i h
    split
    · rename_i h2
      have h3 : 0 ≤ (a - b - 1) / (-c) := Int.ediv_nonneg (by omega) (by omega)
      have h4 : (a - b - 1) / (-c) ≤ a - b - 1 := Int.ediv_le_self _ (by omega)
      omega
    · omega
theorem small_3 {a b c : Int} (ha : -(2 ^ 40) ≤ a ∧ a < 2 ^ 40) (hb : -(2 ^ 40) ≤ b ∧ b < 2 ^ 40) (hc : -(2 ^ 20) ≤ c ∧ c < 2 ^ 20) (h0 : c ≠ 0) : Builtin.Range.small a b c = true := by
  have h := rs_le a b c h0
  unfold Builtin.Range.small
  simp only [Builtin.Range.rangeFitsLong, Bool.and_eq_true, Bool.or_eq_true, decide_eq_true_eq, beq_iff_eq]
  generalize Builtin.Range.rangeSize a b c = n at h
  have hn : (b - a).natAbs < 2 ^ 42 := by omega
  refine ⟨⟨⟨⟨by omega, by omega⟩, by omega⟩, by omega⟩, .inr ?_⟩
  split <;> rw [Bool.and_eq_true, decide_eq_true_eq, decide_eq_true_eq] <;> omega
noncomputable def Itc (lo c : Int) (n : Nat) : It := ⟨fun i _ => i < n, fun i H x H' => H' = H ∧ x = .int (lo + i * c), fun i _ => n ≤ i⟩
theorem turn_rangeC {P : Program} {w : World} {K : PySem.W.Frag} {tg : Expr} (it : Addr) (lo c : Int) (n : Nat) : Turn P w K tg (Itc lo c n) [it] it (fun i h => IsRangeIter h it (lo + (i : Nat) * c) ((n : Int) - (i : Nat)) c) where
  mem := by simp
  obj := fun i h st b hb => by
    have e : b = it := by simpa using hb
    subst e
    exact ⟨_, st, fun v z => by cases (show Data.fields _ = Data.cell v from z)⟩
  keep := fun i h h' st k => k it (by simp) _ st
  item := by
    intro X hP hw hK hc i pins s σ H E I hf st hg
    subst hP hw hK
    obtain ⟨f0, f1, f2, f3, f4, f5⟩ := hf it (by simp)
    have W := Walks.range (prog := X.prog) (w := X.w) (I.ok.hd hc) it lo c n
    refine W.item i s _ _ hg st fun v h' tk hv st' kk => ?_
    obtain ⟨t, rfl⟩ := hv
    have I1 : Inv X pins σ H { s with heap := h', toks := tk } := I.turned (fun b o hb e => kk b o (by simpa using hb) e) f0 f1 f3 f4 f5
    exact ⟨_, rfl, go_of (s := { s with heap := h', toks := tk }) (n := "range_iterator") st' rfl rfl (by decide) ⟨.int (lo + i * c), H, I1, ⟨t, rfl⟩, ⟨rfl, rfl⟩, st', fun b hb => (hf b hb).1⟩⟩
  done := by
    intro X hP hw hK hc i pins s σ H E I hf st hg
    subst hP hw hK
    obtain ⟨f0, f1, f2, f3, f4, f5⟩ := hf it (by simp)
    exact wpAny_pyNext_range_end (I.ok.hd hc) st (by have : n ≤ i := hg; omega) fun h' eb => ⟨rfl, I.turned (t' := s.toks) (fun b o hb e => eb b o hb e) f0 f1 f3 f4 f5⟩
  self := fun _ _ _ _ _ st h => wpAny_pyIter_rangeiter st h
section
variable {X : Cx} {tg : Expr}
noncomputable def iRng3 (ta : TA) : TI := fun σ H R => ta σ H fun vs H1 => ∃ i j c : Int, vs = [.int i, .int j, .int c] ∧ (-(2 ^ 40) ≤ i ∧ i < 2 ^ 40) ∧ (-(2 ^ 40) ≤ j ∧ j < 2 ^ 40) ∧ (-(2 ^ 20) ≤ c ∧ c < 2 ^ 20) ∧ c ≠ 0 ∧ R (Itc i c (Builtin.Range.rangeSize i j c).toNat) H1
theorem pi_range3 {a b c : Expr} {ta : TA} {p pos : Pos} (hg : Gl X "range") (hm : X.mg "range" = none) (ha : PA X [a, b, c] ta) (hs : starEach [a, b, c] X.env = [(false, eval a X.env), (false, eval b X.env), (false, eval c X.env)] := by rfl)
    (hs2 : starEach [b, c] X.env = [(false, eval b X.env), (false, eval c X.env)] := by rfl) : PI X tg (.Call (.Name "range" p) [a, b, c] [] pos) (iRng3 ta) := by
  intro pins s σ H R I h
  refine Call_ (ld_blt I hg hm boot_range (PyProof.Rows.callWith_type1 (thn (ha pos pins s σ H _ I h) fun us s1 ⟨vs, H1, I1, r1, q1⟩ => ?_) (by rw [hs, hs2]) (by rw [hs2]; rfl)))
  obtain ⟨i, j, k, e, h1, h2, h3, h0, q⟩ := q1
  subst e
  cases r1 with
  | cons r rr =>
    cases rr with
    | cons r' rr =>
      cases rr with
      | cons r'' rr =>
        cases rr
        obtain ⟨t, rfl⟩ := r
        obtain ⟨t', rfl⟩ := r'
        obtain ⟨t'', rfl⟩ := r''
        refine call_range_3 h0 ?_ (.inl (PyProof.noPylong_small (by omega)))
        refine wpAny_pyIter_range (IsRange.new ..) (small_3 h1 h2 h3 h0) ?_
        have I2 : Inv X pins σ H1 { s1 with heap := s1.heap.push { cls := .type "range", data := .fields #[.int i t, .int j t', .int k t''] }, toks := s1.toks } := I1.kept fun b o e => Heap.get?_push_of_some _ e
        refine ⟨(s1.heap.push { cls := .type "range", data := .fields #[.int i t, .int j t', .int k t''] }).objs.size, [(s1.heap.push { cls := .type "range", data := .fields #[.int i t, .int j t', .int k t''] }).objs.size], _, _, H1, rfl,
          I2.kept (t' := s1.toks) fun b o e => Heap.get?_push_of_some _ e, turn_rangeC _ i k (Builtin.Range.rangeSize i j k).toNat, ?_, fun b hb => ?_, q⟩
        · have e1 : i + ((0 : Nat) : Int) * k = i := by simp
          have e2 : (((Builtin.Range.rangeSize i j k).toNat : Nat) : Int) - ((0 : Nat) : Int) = Builtin.Range.rangeSize i j k := by have := (rs_le i j k h0).1; omega
          show IsRangeIter _ _ (i + ((0 : Nat) : Int) * k) ((((Builtin.Range.rangeSize i j k).toNat : Nat) : Int) - ((0 : Nat) : Int)) k
          rw [e1, e2]
          exact Heap.get?_push_size _ rfl
        · have e : b = (s1.heap.push { cls := .type "range", data := .fields #[.int i t, .int j t', .int k t''] }).objs.size := by simpa using hb
          subst e
          exact I2.fpOk (Nat.le_refl _) (I2.hok.fresh (Nat.le_refl _))
theorem for_range3 {lo c : Int} {n : Nat} {g : TG} {tb : TS} {D : Ends} {σ : St} {H : Hp} (Pv : Nat → St → Hp → Prop) (h0 : Pv 0 σ H)
    (hs : ∀ i σ H, i < n → Pv i σ H → g (.int (lo + i * c)) σ H fun σ2 H2 => tb { D with nx := Pv (i + 1), ct := Pv (i + 1), bk := D.nx } σ2 H2) (hd : ∀ σ H, Pv n σ H → D.nx σ H) :
    ∃ W : Nat → Nat → St → Hp → Prop, (∃ m, W 0 m σ H) ∧ ∀ i m σ H, W i m σ H →
      ((Itc lo c n).stop i H ∧ D.nx σ H) ∨ ((Itc lo c n).go i H ∧ ∃ N : St → Hp → Prop, (∀ σ' H', N σ' H' → ∃ m', m' < m ∧ W (i + 1) m' σ' H') ∧ ∀ x H', (Itc lo c n).yld i H x H' → g x σ H' fun σ2 H2 => tb { D with nx := N, ct := N, bk := D.nx } σ2 H2) := by
  refine ⟨fun i m σ H => m = n - i ∧ i ≤ n ∧ Pv i σ H, ⟨n, by simp, Nat.zero_le _, h0⟩, ?_⟩
  rintro i m σ H ⟨rfl, hi, p⟩
  by_cases hlt : i < n
  · refine .inr ⟨hlt, Pv (i + 1), fun σ' H' p' => ⟨n - (i + 1), by omega, rfl, hlt, p'⟩, fun x H' y => ?_⟩
    obtain ⟨e, y⟩ := y
    subst e y
    exact hs i σ _ hlt p
  · have e : i = n := by omega
    subst e
    exact .inl ⟨Nat.le_refl _, hd σ H p⟩
end
end L2
namespace L2
open PySem PySem.Spec PyProof.Rows
end L2
namespace L2
open PySem PySem.Spec PyProof.Rows
section
variable {X : Cx} {K : PySem.W.Frag} {e st : Expr} {te ts : TE} {pos p2 : Pos}
end
end L2
namespace MM
end MM
namespace L2
open PySem PySem.Spec PyProof.Rows
section
variable {X : Cx}
theorem pe_gI {x : Str} {i : Int} {pos : Pos} (h : ∃ t, X.mg x = some (.int i t)) (hg : Gl X x := by rfl) (hd : (x == ("__debug__" : Str)) = false := by decide) : PE X (.Name x pos) (tC (.int i)) := by
  obtain ⟨t, e⟩ := h
  exact pe_glob hg e ⟨t, rfl⟩ hd
theorem pe_gS {x z : Str} {pos : Pos} (h : ∃ t, X.mg x = some (.str z t)) (hg : Gl X x := by rfl) (hd : (x == ("__debug__" : Str)) = false := by decide) : PE X (.Name x pos) (tC (.str z)) := by
  obtain ⟨t, e⟩ := h
  exact pe_glob hg e ⟨t, rfl⟩ hd
end
section
variable {H : Hp} {Q : VK} {σ : St} {td ty tv : TE} {D : Ends} {a : Addr} {kvs : List (Key × V)}
theorem rd_dget (h : td σ H fun x H1 => ty σ H1 fun y H2 => ∃ a v, x = .ref a ∧ DGet H2 a y (some v) ∧ Q v H2) : tDGet td ty σ H Q := h
theorem rd_dput (h : tv σ H fun v H1 => td σ H1 fun x H2 => ty σ H2 fun y H3 => ∃ a H4, x = .ref a ∧ DPut H3 a y v H4 ∧ D.nx σ H4) : sDPut td ty tv D σ H := h
theorem rd_pnil {R : List (V × V) → Hp → Prop} (h : R [] H) : tPairs [] σ H R := h
theorem rd_pcons {tk tw : TE} {r : List (TE × TE)} {R : List (V × V) → Hp → Prop} (h : tk σ H fun x H1 => tw σ H1 fun y H2 => tPairs r σ H2 fun ps H3 => R ((x, y) :: ps) H3) : tPairs ((tk, tw) :: r) σ H R := h
end
theorem Room.units1 {k : Nat} {A : Around} (r : Room k A) : A.units + 1 < cLine := by have := r.un; omega
section
variable {H : Hp} {Q : VK} {σ : St} {K : PySem.W.Frag} {to : TE} {t : TA} {r : V → List V → Hp → VK → Prop} {T : String} {l p q : Addr} {xs ys : List V} {y : V}
theorem rd_bm0 (h : to σ H fun x H1 => tyV K T x H1 ∧ r x [] H1 Q) : tBM0 K T r to σ H Q := h
theorem rd_bm (h : to σ H fun x H1 => tyV K T x H1 ∧ t σ H1 fun xs H2 => r x xs H2 Q) : tBM K T r to t σ H Q := h
theorem tyL {B : Prop} (c : SqL K H l xs) (h : B) : tyV K "list" (.ref l) H ∧ B := ⟨.inl ⟨rfl, xs, c⟩, h⟩
theorem rd_app (c : H l = some (.lst xs)) (b : xs.length < 16777216) (h : Q .non (upd H l (.lst (xs ++ [y])))) : rAppend (.ref l) [y] H Q := ⟨l, xs, y, rfl, rfl, c, by rw [sizeLine_eq]; exact b, h⟩
theorem rd_ext (c : H l = some (.lst xs)) (d : H p = some (.lst ys)) (b : xs.length + ys.length ≤ 16777216) (h : Q .non (upd H l (.lst (xs ++ ys)))) : rExtend (.ref l) [.ref p] H Q := ⟨l, p, xs, ys, rfl, rfl, c, d, by rw [sizeLine_eq]; exact b, h⟩
theorem rd_cat (c : SqL K H l xs) (d : SqL K H p ys) (b : xs.length + ys.length ≤ 16777216) (h : ∀ q, H q = none → Q (.ref q) (upd H q (.lst (xs ++ ys)))) : rCatS K (.ref l) (.ref p) H Q := ⟨l, p, xs, ys, rfl, rfl, c, d, by rw [sizeLine_eq]; exact b, h⟩
theorem rd_rep {k : Int} (c : H l = some (.lst xs)) (b1 : 0 ≤ k) (b2 : k ≤ 100000) (b3 : xs.length ≤ 100) (h : ∀ q, H q = none → Q (.ref q) (upd H q (.lst (List.replicate k.toNat xs).flatten))) : rRep (.ref l) (.int k) H Q :=
  ⟨l, k, xs, rfl, rfl, c, by omega, by omega, by
    rw [sizeLine_eq]
    have h1 : k.toNat ≤ 100000 := by omega
    exact Nat.le_trans (Nat.mul_le_mul b3 h1) (by decide), h⟩
theorem rd_listOf {z : Addr} (c : SqL K H z xs) (h : ∀ q, H q = none → Q (.ref q) (upd H q (.lst xs))) : rListOf K [.ref z] H Q := ⟨z, xs, rfl, .inl c, h⟩
end
end L2
namespace L2
open PySem
open Sem (wp)
open AutoSeq1 (wpAny_loadPart')
section
variable {prog : Program} {w : World} {A : Around} {E : Value → Shared → Prop} {s : Shared}
theorem typeCall_kw {T newId : String} {Bn : Builtin} {v : Value} {x : Str} {u : Value} {Q : Value → Shared → Prop} (ft : TypeCalled T newId "object.__init__") (hne : (some newId != some "object.__new__") = true)
    (hct : checkTypeCall T ⟨[v], [(x, u)]⟩ = pure ()) (hcn : checkBuiltinCall newId ⟨[.type T, v], [(x, u)]⟩ = pure ()) (hok : ∀ obj, argsOk "object.__init__" ⟨[obj, v], [(x, u)]⟩) (entryN : entryFor table newId = some Bn)
    (g : wpAny (model prog w) A.in1.in1 (Bn ⟨[.type T, v], [(x, u)]⟩) (fun fin s1 => ∃ obj, fin = .done (.ret obj) ∧ s1.TypeIs obj T ∧ Q obj s1) E s) : wpAny (model prog w) A (call (.type T) [v] [(x, u)]) Q E s := by
  obtain ⟨c, tl, hmro⟩ := ft.mro
  have hmade := ft.made
  have hsub := ft.sub
  refine wpAny_call (codeAny_of_tree ?_)
  show wpAny _ _ (callAny (.type T) _) _ _ _
  refine wpAny_pure ⟨Code.quiet_builtin _ (by decide +kernel), codeAny_builtin F.entry_type_call ?_⟩
  rw [Around.under_plain (weight_type_call_type T [v] [(x, u)]) (units_type_call_type T [v] [(x, u)])]
  have h1 := ft.notType
  have h2 := ft.canCreate
  repeat (any_goals (first | assumption | wp_step))
  refine codeAny_call_builtin ft.plain entryN (wpAny_of_eq hcn (wpAny_mono g (fun fin s1 q => ?_) fun _ _ q => q))
  obtain ⟨obj, rfl, hT, q⟩ := q
  have hli := ft.init.lookup
  have hbi := ft.init.bind obj
  show wpAny _ _ _ _ _ _
  repeat (any_goals (first | assumption | wp_step))
  refine codeAny_call_builtin ft.init.plain F.entry_object_init (ft.init.check _ _ _ _ _ _ _ _ hT (hok obj) ?_)
  repeat (any_goals (first | assumption | wp_step))
  trace_state
theorem new_enum_kw {v : Value} {t : Tok} {Q : Value → Shared → Prop}
    (h : wpAny (model prog w) A (pyIter v) (fun itv s1 => Q (.ref s1.heap.objs.size) { s1 with heap := s1.heap.push { cls := .type "enumerate", data := .fields #[.none, .bool false, itv, rawInt 1, .none, .none] } }) E s) :
    wpAny (model prog w) A (Builtin.«enumerate.__new__» ⟨[.type "enumerate", v], [("start", .int 1 t)]⟩) (fun fin s1 => ∃ obj, fin = .done (.ret obj) ∧ Q obj s1) E s := by
  have hsub := sub_enumerate
  have hit : ∀ {R : Value → Shared → Prop}, (∀ itv s1, Q (.ref s1.heap.objs.size) { s1 with heap := s1.heap.push { cls := .type "enumerate", data := .fields #[.none, .bool false, itv, rawInt 1, .none, .none] } } → R itv s1) → wpAny (model prog w) A (pyIter v) R E s := fun k => wpAny_mono h k fun _ _ q => q
  unfold Builtin.«enumerate.__new__»
  wp_walk
  refine wpAny_stack_any fun st => wpAny_pure ?_
  split
  · rename_i c _ _ _ _ _
    cases (c == Value.type "enumerate")
    · wp_walk using hit
      intro itv s1 q
      wp_walk
      exact ⟨_, rfl, q⟩
    · wp_walk using hit
      intro itv s1 q
      wp_walk
      exact ⟨_, rfl, q⟩
  · wp_walk using hit
    intro itv s1 q
    wp_walk
    exact ⟨_, rfl, q⟩
theorem call_enumS {v : Value} {t : Tok} {Q : Value → Shared → Prop}
    (h : wpAny (model prog w) A.in1.in1 (pyIter v) (fun itv s1 => ∃ it, itv = .ref it ∧ ∀ h', IsEnum h' s1.heap.objs.size it 1 .none → (∀ b o, s1.heap.get? b = some o → h'.get? b = some o) → h'.objs.size = s1.heap.objs.size + 1 → Q (.ref s1.heap.objs.size) { s1 with heap := h' }) E s) :
    wpAny (model prog w) A (call (.type "enumerate") [v] [("start", .int 1 t)]) Q E s := by
  refine typeCall_kw F.called_enumerate (by decide) (by kernel_rfl) (by kernel_rfl) (fun obj => by unfold argsOk; kernel_rfl) F.entry_enumerate_new (new_enum_kw (wpAny_mono h (fun itv s1 q => ?_) fun _ _ q => q))
  obtain ⟨it, rfl, q⟩ := q
  refine ⟨⟨_, Heap.get?_push_size _ rfl, rfl⟩, q _ (Heap.get?_push_size _ rfl) (fun b o e => Heap.get?_push_of_some _ e) (Heap.size_push ..)⟩
end
theorem shiftD {prog : Program} {w : World} {A : Around} {it : Addr} {fp : List Addr} {n : Nat} {Pv : Nat → Value → Prop} {St : Nat → Heap → Prop} (k : Nat) (D : Draws prog w A it fp n Pv St) :
    Draws prog w A it fp (n + k) (fun i v => ∃ j, i = j + k ∧ Pv j v) (fun i h => ∃ j, i = j + k ∧ St j h) where
  live := fun i h ⟨j, _, st⟩ => D.live j h st
  frame := fun i h h' ⟨j, e, st⟩ q => ⟨j, e, D.frame j h h' st q⟩
  item := fun i s Q E hi ⟨j, e, st⟩ hQ => D.item j s Q E (by omega) st fun x h' tk p st' sb => hQ x h' tk ⟨j, e, p⟩ ⟨j + 1, by omega, st'⟩ sb
  done := fun s Q E ⟨j, e, st⟩ hE => D.done s Q E (by
    have q : j = n := by omega
    rw [q] at st
    exact st) hE
theorem kwCall_type {M : Model} {A : Around} {E : Value → Shared → Prop} {s : Shared} {pos : Pos} {T : String} {args : List (Bool × Sem Value)} {kws : List (Option Str × Sem Value)} {Q : Value → Shared → Prop}
    (hp : args.any (·.1) = false) (hk : kws.any (·.1.isNone) = false) (h : wpAny M A (evalArgs (.type T) true args kws) (fun a s1 => wpAny M A (call (.type T) a.pos a.kw) Q E s1) E s) : wpAny M A (callWith pos (.type T) [] args kws) Q E s := by
  unfold callWith
  refine wpAny_bind (wpAny_holding (wpAny_mono h (fun a s1 h1 => wpAny_bind (wpAny_standAt ?_)) fun _ _ q => q))
  simp only [hp, hk, Bool.or_false]
  refine wpAny_bind (wpAny_pure ?_)
  refine wpAny_bind (wpAny_mono h1 (fun r s2 hr => ?_) fun _ _ q => q)
  exact wpAny_bind (wpAny_holding (wpAny_point (wpAny_pure hr)))
end L2
namespace L2
open PySem PySem.Spec PyProof.Rows
theorem drawsS {prog : Program} {w : World} {A : Around} (hh : A.handled = none) (tp : Bool) (it l : Addr) (hne : l ≠ it) (items : Array Value) :
    Draws prog w A it [it, l] items.size (fun i v => items[i]? = some v) (fun i h => SrcIt tp h it l i ∧ SrcSq tp h l items) where
  live := fun _ _ st => let ⟨o, e, _⟩ := srcIt_obj st.1; ⟨o, e⟩
  frame := fun _ _ _ st hk => ⟨srcIt_at st.1 fun o e => hk it (by simp) o e, srcSq_at st.2 fun o e => hk l (by simp) o e⟩
  item := fun i s Q E hi st hQ => src_item st.1 st.2 (x := items[i]) (by simp [hi]) fun h' hit sb => hQ _ h' s.toks (by simp [hi]) ⟨hit, srcSq_at st.2 fun o e => (sb.2 l hne).trans e⟩ sb
  done := fun s Q E st hE => src_end hh st.1 st.2 (by simp) hE
noncomputable def IteS (tp : Bool) (K : PySem.W.Frag) (a : Addr) : It :=
  ⟨fun i H => ∃ xs x, SqS tp K H a xs ∧ xs[i]? = some x, fun i H v H' => ∃ p x, H p = none ∧ v = .ref p ∧ H' = upd H p (.tup [.int ((i + 1 : Nat) : Int), x]) ∧ ∀ xs, SqS tp K H a xs → xs[i]? = some x, fun i H => ∃ xs, SqS tp K H a xs ∧ xs.length ≤ i⟩
theorem turn_enumS {P : Program} {w : World} {K : PySem.W.Frag} {elts : List Expr} {k : Nat} {pos : Pos} (tp : Bool) (a e it : Addr) (hne : e ≠ it) :
    Turn P w K (.Tuple elts k pos) (IteS tp K a) [e, it] e (fun i h => (∃ old, IsEnum h e it ((i + 1 : Nat) : Int) old) ∧ SrcIt tp h it a i) where
  mem := by simp
  obj := fun i h st b hb => by
    obtain ⟨⟨old, he⟩, hi⟩ := st
    obtain ⟨o, eo, d⟩ := srcIt_obj hi
    rcases List.mem_cons.mp hb with z | z
    · subst z
      exact ⟨_, he, fun v z => by cases (show Data.fields _ = Data.cell v from z)⟩
    · have z : b = it := by simpa using z
      subst z
      exact ⟨o, eo, fun v z => by rw [d] at z; cases z⟩
  keep := fun i h h' st kp => by
    obtain ⟨⟨old, he⟩, hi⟩ := st
    exact ⟨⟨old, kp e (by simp) _ he⟩, srcIt_at hi fun o z => kp it (by simp) o z⟩
  item := by
    intro X hP hw hK hc i pins s σ H E I hf st hg
    subst hP hw hK
    obtain ⟨xs, x, hq, hx⟩ := hg
    obtain ⟨its, rv, p⟩ := sqS_src I hq
    obtain ⟨u, hu, ru⟩ := rv.get hx
    obtain ⟨⟨old, he⟩, hi⟩ := st
    obtain ⟨oi, ei, di⟩ := srcIt_obj hi
    obtain ⟨oa, na, ea, da⟩ := srcSq_obj p
    have hel : e < s.heap.objs.size := Heap.lt_size he
    have hil : it < s.heap.objs.size := Heap.lt_size ei
    have nia : a ≠ it := fun z => by
      subst z
      rw [ei] at ea
      cases ea
      rw [di] at da
      cases da
    have nea : e ≠ a := fun z => by
      subst z
      rw [show s.heap.get? e = _ from he] at ea
      cases ea
      cases (show Data.fields _ = Data.seq _ _ from da)
    have hlt : i < its.toArray.size := by
      have := (List.getElem?_eq_some_iff.mp hu).1
      simpa using this
    have D := shiftD 1 (drawsS (prog := X.prog) (w := X.w) (A := X.A.in1) (I.ok.hd hc) tp it a nia its.toArray)
    refine wpAny_pyNext_enum_itemD (i := i + 1) D he ⟨i, rfl, hi, p⟩ (by omega) hne (by simp [hne, nea]) fun v h' tk pv ho st' hT hsz hk => ?_
    obtain ⟨j, ej, ev⟩ := pv
    obtain ⟨j2, ej2, hi', p'⟩ := st'
    have ej : j = i := by omega
    have ej2 : j2 = i + 1 := by omega
    subst ej ej2
    have ev : v = u := by
      rw [show its.toArray[j]? = some u by simpa using hu] at ev
      exact (Option.some.inj ev).symm
    subst ev
    have I0 := I.laid (h' := s.heap.push { cls := .type "tuple", data := .seq #[.int ((j + 1 : Nat) : Int) tk, v] }) (a := s.heap.objs.size) (o := .tup [.int ((j + 1 : Nat) : Int), x]) (t' := tk + 1) (fun _ _ q => Heap.get?_push_of_some _ q) (Nat.le_refl _)
      ⟨(by show 2 ≤ sizeLine; decide), [.int ((j + 1 : Nat) : Int) tk, v], .cons ⟨_, rfl⟩ (.cons ru .nil), ⟨_, Heap.get?_push_size _ rfl, rfl, _, rfl⟩⟩
    have f0 : ∀ b ∈ [e, it], FpOk X pins (upd H s.heap.objs.size (.tup [.int ((j + 1 : Nat) : Int), x])) b := fun b hb => fp_upd (hf b hb) (by
      rcases List.mem_cons.mp hb with z | z
      · rw [z]; exact Nat.ne_of_lt hel
      · rw [show b = it by simpa using z]; exact Nat.ne_of_lt hil)
    have I1 := Inv.turnedL (t' := tk + 1) (h' := h') [e, it] I0 f0 (fun b o hb z => by
      have hb1 : b ≠ e := fun q => hb (by simp [q])
      have hb2 : b ≠ it := fun q => hb (by simp [q])
      rcases Heap.get?_push_cases (show (s.heap.push { cls := .type "tuple", data := .seq #[.int ((j + 1 : Nat) : Int) tk, v] }).get? b = some o from z) with ⟨q1, q2⟩ | q
      · rw [q1, q2]; exact hT
      · exact hk b o hb1 hb2 q)
    refine ⟨.ref s.heap.objs.size, rfl, wpAny_letOwnedTupleGo_enum (s := { s with heap := h', toks := tk + 1 }) ho fun h2 he2 sb => ?_⟩
    exact ⟨.ref s.heap.objs.size, _, Inv.turnedL (t' := tk + 1) (h' := h2) [e, it] I1 f0 (fun b o hb z => (sb.2 b fun q => hb (by simp [q])).trans z), rfl, ⟨_, x, I.fresh, rfl, rfl, fun ys hy => by rw [sqS_inj I hy hq]; exact hx⟩,
      ⟨⟨v, by simpa using he2⟩, srcIt_at hi' fun o z => (sb.2 it hne.symm).trans z⟩, fun b hb => (f0 b hb).1⟩
  done := by
    intro X hP hw hK hc i pins s σ H E I hf st hg
    subst hP hw hK
    obtain ⟨xs, hq, hx⟩ := hg
    obtain ⟨its, rv, p⟩ := sqS_src I hq
    obtain ⟨⟨old, he⟩, hi⟩ := st
    obtain ⟨oi, ei, di⟩ := srcIt_obj hi
    obtain ⟨oa, na, ea, da⟩ := srcSq_obj p
    have hT : s.TypeIs (.ref e) "enumerate" := ⟨_, he, rfl⟩
    have hl := rv.length
    unfold pyNext
    refine wpAny_bind (wpAny_attempt (wpAny_callSpecial?_slot (name := Str.ofString "__next__") hT F.slot_enumerate_next (wpAny_call_entry F.slot_enumerate_next hT F.entry_enumerate_next ?_ (F.args_enumerate_next_1 _))))
    show wpAny _ _ (field (.ref e) 2 >>= _) _ _ _
    refine wpAny_bind (wpAny_field he rfl (x := .ref it) rfl ?_)
    refine wpAny_bind (src_end (A := X.A.in1) (I.ok.hd hc) hi p (by simp; omega) fun h' x eb hx' => ?_)
    obtain ⟨o, ho, hc2⟩ := hx'
    exact wpAny_bind (wpAny_isInstance (T := "StopIteration") (b := true) ⟨o, ho, hc2⟩ isSubtype_stop (wpAny_pure ⟨rfl, I.turnedL (t' := s.toks) [e, it] hf fun b o hb z => eb b o (fun q => hb (by simp [q])) z⟩))
  self := fun _ _ _ _ _ st h => by
    obtain ⟨⟨old, he⟩, _⟩ := st
    exact wpAny_pyIter_enum he h
section
variable {X : Cx} {elts : List Expr} {k : Nat} {tpos : Pos} {K : PySem.W.Frag}
noncomputable def iEnumS (K : PySem.W.Frag) (ta : TA) : TI := fun σ H R => ta σ H fun vs H1 => ∃ tp a, vs = [.ref a] ∧ (∃ xs, SqS tp K H1 a xs) ∧ R (IteS tp K a) H1
theorem pi_enumS {l : Expr} {ta : TA} {p pos kp cp : Pos} {cj : Nat} (hg : Gl X "enumerate") (hm : X.mg "enumerate" = none) (ha : PA X [l] ta) (hK : X.K = K := by rfl) (hs : starEach [l] X.env = [(false, eval l X.env)] := by rfl) :
    PI X (.Tuple elts k tpos) (.Call (.Name "enumerate" p) [l] [⟨some "start", .Constant (.int 1) cj cp, kp⟩] pos) (iEnumS K ta) := by
  subst hK
  intro pins s σ H R I h
  refine wpAny_Call_Name_kw (ld_blt I hg hm boot_enum (kwCall_type (by rw [hs]; rfl) rfl (PyProof.Rows.evalArgs_kw2 rfl ?_ (by rw [hs]; rfl))))
  refine thn (ha pos pins s σ H _ I h) fun us s1 ⟨vs, H1, I1, r1, q1⟩ => PyProof.Rows.kwAll_cons ?_
  refine pe_int pins s1 σ H1 (fun v H2 => v = .int 1 ∧ H2 = H1) I1 ⟨rfl, rfl⟩ |> fun z => thn z fun u s2 ⟨v, H2, I2, r2, ev, eh⟩ => ?_
  subst ev eh
  obtain ⟨t, rfl⟩ := r2
  refine PyProof.Rows.kwAll_nil ?_
  obtain ⟨tp, a, e, ⟨xs, hq⟩, q⟩ := q1
  subst e
  cases r1 with
  | cons r rr =>
    cases rr
    cases r
    obtain ⟨its, rv, pl⟩ := sqS_src I2 hq
    refine call_enumS ?_
    refine src_iter pl ⟨_, rfl, fun h' he hk hsz => ?_⟩
    refine wpAny_pyIter_enum he ?_
    have hz : (s2.heap.push { cls := .type (srcTy tp), data := .fields #[.ref a, .int 0 0] }).objs.size = s2.heap.objs.size + 1 := Heap.size_push ..
    have hk2 : ∀ b o, s2.heap.get? b = some o → h'.get? b = some o := fun b o z => hk b o (Heap.get?_push_of_some _ z)
    have I3 := I2.kept (t' := s2.toks) hk2
    have st : SrcIt tp h' s2.heap.objs.size a 0 := srcIt_at srcIt_new fun o z => hk _ o z
    refine ⟨_, [_, s2.heap.objs.size], _, _, H2, rfl, I3, turn_enumS tp a _ _ (by rw [hz]; exact Nat.succ_ne_self _), ⟨⟨_, he⟩, st⟩, fun b hb => ?_, q⟩
    have hb' : s2.heap.objs.size ≤ b := by
      rcases List.mem_cons.mp hb with z | z
      · rw [z, hz]; exact Nat.le_succ _
      · have z : b = s2.heap.objs.size := by simpa using z
        rw [z]; exact Nat.le_refl _
    exact I2.fpOk hb' (I2.hok.fresh hb')
end
section
variable {X : Cx} {tg : Expr} {K : PySem.W.Frag}
end
structure FSrc (J : It) (g : TG) (H : Hp) (n : Nat) (set : Nat → St → St) : Prop where
  go : ∀ i H', i < n → Same H H' → J.go i H'
  stop : ∀ H', Same H H' → J.stop n H'
  yld : ∀ i σ H' x H'' (R : St → Hp → Prop), i < n → Same H H' → J.yld i H' x H'' → (∀ H3, Same H' H3 → R (set i σ) H3) → g x σ H'' R
theorem for_src {J : It} {g : TG} {H : Hp} {n : Nat} {set : Nat → St → St} {tb : TS} {D : Ends} {σ : St} (S : FSrc J g H n set) (Pv : Nat → St → Hp → Prop) (h0 : Pv 0 σ H) (hk : ∀ i σ H', Pv i σ H' → Same H H')
    (hs : ∀ i σ H' H3, i < n → Pv i σ H' → Same H' H3 → tb { D with nx := Pv (i + 1), ct := Pv (i + 1), bk := D.nx } (set i σ) H3) (hd : ∀ σ H', Pv n σ H' → D.nx σ H') :
    ∃ W : Nat → Nat → St → Hp → Prop, (∃ m, W 0 m σ H) ∧ ∀ i m σ H, W i m σ H →
      (J.stop i H ∧ D.nx σ H) ∨ (J.go i H ∧ ∃ N : St → Hp → Prop, (∀ σ' H', N σ' H' → ∃ m', m' < m ∧ W (i + 1) m' σ' H') ∧ ∀ x H', J.yld i H x H' → g x σ H' fun σ2 H2 => tb { D with nx := N, ct := N, bk := D.nx } σ2 H2) := by
  refine ⟨fun i m σ H' => m = n - i ∧ i ≤ n ∧ Pv i σ H', ⟨n, by simp, Nat.zero_le _, h0⟩, ?_⟩
  rintro i m σ H1 ⟨rfl, hi, p⟩
  by_cases hlt : i < n
  · exact .inr ⟨S.go i H1 hlt (hk _ _ _ p), Pv (i + 1), fun σ' H' p' => ⟨n - (i + 1), by omega, rfl, hlt, p'⟩, fun x H' y => S.yld i σ H1 x H' _ hlt (hk _ _ _ p) y fun H3 s3 => hs i σ H1 H3 hlt p s3⟩
  · have e : i = n := by omega
    subst e
    exact .inl ⟨S.stop H1 (hk _ _ _ p), hd σ H1 p⟩
section
variable {K : PySem.W.Frag} {H : Hp} {a b : Addr} {xs zs : List V} {tp t1 t2 : Bool} {i1 i2 : Nat}
theorem fs_range {lo : Int} {n : Nat} : FSrc (Itr lo n) (gName i1) H n (fun i σ => σ.set i1 (some (.int (lo + i)))) where
  go := fun i H' hi s => hi
  stop := fun H' s => Nat.le_refl _
  yld := fun i σ H' x H'' R hi s y k => by
    obtain ⟨e, hv⟩ := y
    subst e hv
    exact k _ (Same.refl _)
theorem fs_enumS (h : SqS tp K H a xs) : FSrc (IteS tp K a) (gTup K 2 (gCons (gName i1) (gCons (gName i2) gNil))) H xs.length (fun i σ => (σ.set i1 (some (.int ((i + 1 : Nat) : Int)))).set i2 (some (xs.getD i .non))) where
  go := fun i H' hi s => ⟨xs, xs[i], h.same s, by simp [hi]⟩
  stop := fun H' s => ⟨xs, h.same s, Nat.le_refl _⟩
  yld := fun i σ H' x H'' R hi s y k => by
    obtain ⟨p, v, hp, rfl, rfl, hv⟩ := y
    have e : v = xs.getD i .non := by
      rw [List.getD_eq_getElem?_getD, hv xs (h.same s)]
      rfl
    subst e
    exact ⟨p, _, rfl, SqT.of upd_same, rfl, _, _, rfl, _, _, rfl, rfl, k _ (same_new hp)⟩
theorem fs_enum (h : SqL K H a xs) : FSrc (Ite K a) (gTup K 2 (gCons (gName i1) (gCons (gName i2) gNil))) H xs.length (fun i σ => (σ.set i1 (some (.int i))).set i2 (some (xs.getD i .non))) where
  go := fun i H' hi s => ⟨xs, xs[i], s.seq h, by simp [hi]⟩
  stop := fun H' s => ⟨xs, s.seq h, Nat.le_refl _⟩
  yld := fun i σ H' x H'' R hi s y k => by
    obtain ⟨p, v, hp, rfl, rfl, hv⟩ := y
    have e : v = xs.getD i .non := by
      rw [List.getD_eq_getElem?_getD, hv xs (s.seq h)]
      rfl
    subst e
    exact ⟨p, _, rfl, SqT.of upd_same, rfl, _, _, rfl, _, _, rfl, rfl, k _ (same_new hp)⟩
end
end L2
namespace L2
open PySem PySem.Spec PyProof.Rows
section
variable {X : Cx}
end
section
variable {H : Hp} {Q : VK} {σ : St} {D : Ends} {te : TE} {ti : TIp} {i : Nat} {x : V}
theorem rd_aug (e : σ[i]? = some (some x)) (h : te σ H fun y H1 => ti x y H1 fun z H2 => D.nx (σ.set i (some z)) H2) : tAug i te ti D σ H := ⟨x, e, h⟩
end
noncomputable abbrev nV (n : Nat) : V := .int (n : Nat)
theorem bls_comp {J : It} {g : TG} {σ0 : St} {H : Hp} {n : Nat} {st : Nat → St} {te : TE} {Q : VK} {D : Addr} {G : Nat → Bool} (S : SrcOk J g σ0 H n st) (hD : H D = none) (hn : n ≤ 100000)
    (he : ∀ i H' (R : VK), i < n → Same H H' → (∀ H3, Same H' H3 → R (.bl (G i)) H3) → te (st i) H' R)
    (hd : ∀ H', Same H H' → H' D = some (.lst (((List.range n).map G).map V.bl)) → Q (.ref D) H') : CompW J σ0 g tYes te Q H D := by
  refine comp_map (m := 0) (G := fun i => .bl (G i)) S hD hn (fun i H' R hi s k => he i H' R hi s fun H3 s3 => k H3 _ s3 (.bl _)) fun H' ys s hl r => ?_
  have e : ys = ((List.range n).map G).map V.bl := by
    cases r with
    | @lst _ _ vs _ q f b l ee =>
      rw [hl] at q
      cases q
      refine List.ext_getElem (by simpa using l) fun i h1 h2 => ?_
      have hi : i < n := by simpa using h2
      have := ee i ys[i] (.bl (G i)) (by simp [h1]) (by simp [hi])
      cases hv : ys[i] <;> rw [hv] at this <;> cases this
      simp
  rw [e] at hl
  exact hd H' s hl
end L2
namespace L2
open PySem PySem.Spec PyProof.Rows
section
variable {X : Cx} {x m : Str} {C : Addr} {k : Nat} {ps : List Str} {sp : Sp} {o e : Expr} {es : List Expr} {t : TA} {ta : TE} {p pos apos : Pos}
end
structure Kind (K : PySem.W.Frag) (C : Addr) : Prop where
  cl : Cls K C
  ha : PySem.W.findIn K (.ref C) "__class__" = some (some (.builtin "object.__class__"))
  hn : PySem.W.specialIn K (.builtin "object.__class__") "__get__" = some (some (.builtin "getset_descriptor.__get__"))
  htk : PySem.W.takesIn K (.builtin "object.__class__") = some true
  hm : PySem.W.mroIn K C (.type "object") = some true
section
variable {K : PySem.W.Frag} {H : Hp} {Q : VK} {σ : St} {D : Ends} {te tv : TE} {t : TA} {a C dx : Addr} {fs : List (Str × V)} {f : Str} {v : V} {sp : Sp}
end
theorem rd_chain {r r' : R2} {ta tb tc : TE} {σ : St} {H : Hp} {Q : VK} (h : ta σ H fun x H1 => tb σ H1 fun y H2 => r x y H2 fun z H3 => ∃ k, z = .bl k ∧ (if k = true then tc σ H3 fun w' H4 => r' y w' H4 Q else Q (.bl false) H3)) : tChain r r' ta tb tc σ H Q := h
noncomputable def amongV (x : V) (a b : Int) : Bool := match x with | .int i => decide (a ≤ i) && decide (i ≤ b) | _ => false
theorem fin_b {b b' : Bool} {Q : VK} {H : Hp} (e : b = b') (h : Q (.bl b') H) : Q (.bl b) H := e ▸ h
theorem iteC {b : Bool} {A B : Prop} (h1 : b = true → A) (h2 : b = false → B) : if b = true then A else B := by
  cases b with
  | true => exact h1 rfl
  | false => exact h2 rfl
end L2
namespace L2
open PySem PySem.Spec PyProof.Rows
section
variable {X : Cx} {pins : List (Addr × Obj)} {σ : St} {H : Hp} {s : Shared}
end
end L2
namespace L2
open PySem PySem.Spec PyProof.Rows
noncomputable abbrev dN (n : Nat) : Dt := .int (n : Nat)
noncomputable def dT (ns : List Nat) : Dt := .tup (ns.map dN)
noncomputable def dS (zs : List Str) : Dt := .lst (zs.map .str)
section
variable {H : Hp} {F : Addr → Prop} {n : Nat} {v : V}
theorem vals_map {α : Type} {f : α → V} {g : α → Dt} (uniq : ∀ (a : α) (v : V), Rp H F n v (g a) → v = f a) {vs : List V} {as : List α} (l : vs.length = (as.map g).length)
    (e : ∀ (i : Nat) (v : V) (d : Dt), vs[i]? = some v → (as.map g)[i]? = some d → Rp H F n v d) : vs = as.map f := by
  refine List.ext_getElem (by simpa using l) fun i h1 h2 => ?_
  have h3 : i < as.length := by simpa using h2
  rw [List.getElem_map]
  exact uniq _ _ (e i vs[i] (g as[i]) (by simp [h1]) (by simp [h3]))
theorem uniq_s (a : Str) (v : V) (r : Rp H F n v (.str a)) : v = .str a := by cases r; rfl
theorem dS_of {zs : List Str} (r : Rp H F n v (dS zs)) : ∃ a, v = .ref a ∧ H a = some (.lst (zs.map V.str)) ∧ F a ∧ zs.length ≤ 100000 := by
  unfold dS at r
  cases r with
  | @lst m a vs _ h f b l e =>
    have q := vals_map (f := V.str) (fun a v r => uniq_s a v r) l e
    subst q
    exact ⟨a, rfl, h, f, by simpa using b⟩
theorem getD_map {α β : Type} (f : α → β) (as : List α) (i : Nat) (x : β) (y : α) (h : i < as.length) : (as.map f).getD i x = f (as.getD i y) := by simp [List.getD_eq_getElem?_getD, h]
theorem getD_str {zs : List Str} {i : Nat} (h : i < (zs.map V.str).length) : (zs.map V.str).getD i .non = .str (zs.getD i Str.empty) := getD_map V.str zs i .non Str.empty (by simpa using h)
end
end L2
namespace L2
open PySem PySem.Spec PyProof.Rows
end L2
namespace L2
open PySem PySem.Spec PyProof.Rows
end L2
namespace L2
open PySem PySem.Spec PyProof.Rows
section
variable {H : Hp} {a : Addr} {kvs : List (Key × V)}
end
section
variable {K : PySem.W.Frag} {wi : TI} {own : List Str} {fr : List (Str × Nat)} {g : TG} {tc : TT} {te tl : TE} {tb : TS} {D : Ends} {σ : St} {H : Hp} {Q : VK} {R : It → Hp → Prop} {ta : TA}
theorem rd_comp (h : wi σ H fun J H1 => ∀ D, H1 D = none → CompW J (blkSt own fr σ) g tc te Q H1 D) : tComp wi own fr g tc te σ H Q := h
theorem rd_for (h : wi σ H fun J H1 => ∃ W : Nat → Nat → St → Hp → Prop, (∃ m, W 0 m σ H1) ∧ ∀ i m σ H, W i m σ H →
  (J.stop i H ∧ D.nx σ H) ∨ (J.go i H ∧ ∃ N : St → Hp → Prop, (∀ σ' H', N σ' H' → ∃ m', m' < m ∧ W (i + 1) m' σ' H') ∧ ∀ x H', J.yld i H x H' → g x σ H' fun σ2 H2 => tb { D with nx := N, ct := N, bk := D.nx } σ2 H2)) : tFor wi g tb D σ H := h
theorem rd_iS (h : te σ H fun x H1 => ∃ z, x = .str z ∧ R (Its z) H1) : iStr te σ H R := h
theorem rd_iE (h : ta σ H fun vs H1 => ∃ a, vs = [.ref a] ∧ (∃ xs, SqL K H1 a xs) ∧ R (Ite K a) H1) : iEnum K ta σ H R := h
theorem rd_iF (h : ta σ H fun vs H1 => ∃ tp a, vs = [.ref a] ∧ (∃ xs, SqS tp K H1 a xs) ∧ R (IteS tp K a) H1) : iEnumS K ta σ H R := h
theorem rd_i1 (h : ta σ H fun vs H1 => ∃ j : Int, vs = [.int j] ∧ -(2 ^ 62) ≤ j ∧ j < 2 ^ 62 ∧ R (Itr 0 j.toNat) H1) : iRng1 ta σ H R := h
theorem rd_i2 (h : ta σ H fun vs H1 => ∃ i j : Int, vs = [.int i, .int j] ∧ (-(2 ^ 62) ≤ i ∧ i < 2 ^ 62 ∧ -(2 ^ 62) ≤ j ∧ j < 2 ^ 62) ∧ R (Itr i (j - i).toNat) H1) : iRng2 ta σ H R := h
theorem rd_i3 (h : ta σ H fun vs H1 => ∃ i j c : Int, vs = [.int i, .int j, .int c] ∧ (-(2 ^ 40) ≤ i ∧ i < 2 ^ 40) ∧ (-(2 ^ 40) ≤ j ∧ j < 2 ^ 40) ∧ (-(2 ^ 20) ≤ c ∧ c < 2 ^ 20) ∧ c ≠ 0 ∧ R (Itc i c (Builtin.Range.rangeSize i j c).toNat) H1) : iRng3 ta σ H R := h
end
theorem for_srcW {J : It} {g : TG} {H0 H : Hp} {n : Nat} {set : Nat → St → St} {tb : TS} {D : Ends} {σ : St} (S : FSrc J g H0 n set) (Pv : Nat → St → Hp → Prop) (h0 : Pv 0 σ H) (hk : ∀ i σ H', Pv i σ H' → Same H0 H')
    (hs : ∀ i σ H' H3, i < n → Pv i σ H' → Same H' H3 → tb { D with nx := Pv (i + 1), ct := Pv (i + 1), bk := D.nx } (set i σ) H3) (hd : ∀ σ H', Pv n σ H' → D.nx σ H') :
    ∃ W : Nat → Nat → St → Hp → Prop, (∃ m, W 0 m σ H) ∧ ∀ i m σ H, W i m σ H →
      (J.stop i H ∧ D.nx σ H) ∨ (J.go i H ∧ ∃ N : St → Hp → Prop, (∀ σ' H', N σ' H' → ∃ m', m' < m ∧ W (i + 1) m' σ' H') ∧ ∀ x H', J.yld i H x H' → g x σ H' fun σ2 H2 => tb { D with nx := N, ct := N, bk := D.nx } σ2 H2) := by
  refine ⟨fun i m σ H' => m = n - i ∧ i ≤ n ∧ Pv i σ H', ⟨n, by simp, Nat.zero_le _, h0⟩, ?_⟩
  rintro i m σ H1 ⟨rfl, hi, p⟩
  by_cases hlt : i < n
  · exact .inr ⟨S.go i H1 hlt (hk _ _ _ p), Pv (i + 1), fun σ' H' p' => ⟨n - (i + 1), by omega, rfl, hlt, p'⟩, fun x H' y => S.yld i σ H1 x H' _ hlt (hk _ _ _ p) y fun H3 s3 => hs i σ H1 H3 hlt p s3⟩
  · have e : i = n := by omega
    subst e
    exact .inl ⟨S.stop H1 (hk _ _ _ p), hd σ H1 p⟩
theorem fs_range0 {H : Hp} {i1 n : Nat} : FSrc (Itr 0 n) (gName i1) H n (fun i σ => σ.set i1 (some (.int (i : Nat)))) := by
  have := fs_range (H := H) (i1 := i1) (lo := 0) (n := n)
  simpa using this
theorem src_range0 {n : Nat} {σ0 : St} {H : Hp} (h0 : σ0[0]? = some none) : SrcOk (Itr 0 n) (gName 0) σ0 H n (fun i => σ0.set 0 (some (.int (i : Nat)))) := by
  have := src_range (H := H) (lo := 0) (n := n) h0
  simpa using this
theorem iteNF {A B : Prop} (h : B) : if (!true) = true then A else B := by simpa using h
end L2
namespace L2
open PySem PySem.Spec PyProof.Rows
end L2
namespace L2
open PySem PySem.Spec PyProof.Rows
theorem ifJ {c : TT} {t u : TS} {D : Ends} {σ : St} {H : Hp} (J : St → Hp → Prop) (h1 : ∀ σ' H', J σ' H' → D.nx σ' H') (h2 : (∀ σ' H', J σ' H' → D.nx σ' H') → tIfS c t u D σ H) : tIfS c t u D σ H := h2 h1
theorem dS_map {α : Type} (f : α → Str) (xs : List α) : Dt.lst (xs.map fun x => Dt.str (f x)) = dS (xs.map f) := by unfold dS; rw [List.map_map]; rfl
end L2
namespace L2
open PySem PySem.Spec PyProof.Rows
end L2
namespace L2
theorem getD_el {α : Type} {as : List α} {i : Nat} {y : α} (h : i < as.length) : as.getD i y = as[i] := by
  rw [List.getD_eq_getElem?_getD, List.getElem?_eq_getElem h]
  rfl
end L2
namespace L2
open PySem PySem.Spec PyProof.Rows
end L2
namespace L2
open PySem PySem.Spec PyProof.Rows
noncomputable def CDivL (i j : Int) : Prop := 0 < j ∧ j < 2 ^ 200
theorem log_small {j : Int} (h0 : 0 < j) (h : j < 2 ^ 200) : j.natAbs.log2 < 9000 := by
  have h1 : j.natAbs < 2 ^ 200 := by omega
  have := (Nat.log2_lt (show j.natAbs ≠ 0 by omega)).mpr h1
  omega
theorem op_fdivL {X : Cx} : OpR X (binaryOp .FloorDiv) (rI CDivL fun i j => .int (i / j)) := opI fun i j _ _ _ _ _ hc q => by
  rw [← Int.fdiv_eq_ediv_of_nonneg i (by have := hc.1; omega)] at q
  exact floordiv_int (by have := hc.1; omega) q (.inl (PyProof.noPylong_of_log2 (log_small hc.1 hc.2)))
end L2
namespace L2
open PySem PySem.Spec PyProof.Rows
section
variable {prog : Program} {w : World} {A : Around} {E : Value → Shared → Prop} {s : Shared} {T : String} {r d : Addr} {n : Nat} {P : Nat → Value → Prop} {St : Nat → Heap → Prop}
end
section
variable {prog : Program} {w : World} {A : Around} {E : Value → Shared → Prop} {s : Shared}
end
section
variable {X : Cx} {K : PySem.W.Frag} {e o : Expr} {ta : TA} {to : TE} {p p2 pos pos2 apos cpos : Pos}
end
end L2
namespace L2
open PySem PySem.Spec PyProof.Rows
section
variable {X : Cx} {K : PySem.W.Frag} {e o : Expr} {es : List Expr} {ta to : TE} {t : TA} {f name : Str} {pos apos cpos : Pos} {T id : String} {r : V → List V → Hp → VK → Prop}
theorem kx_bm0 (pa : PlainAttrs T) (slot : Slot T name id) (hty : typeOf (.builtin id) = pure (.type "method_descriptor")) (hm : MtR X id r) (ho : PE X o to) (hK : X.K = K := by rfl)
    (hbase : attributeBase o name X.env (eval o X.env) = eval o X.env := by rfl) (hline : (apos.endLine == cpos.line) = true := by rfl) : PE X (.Call (.Attribute o name apos) [] [] cpos) (tBM0 K T r to) := by
  subst hK
  exact pe_bm0 pa slot hty hm ho hbase hline
theorem kx_bm (pa : PlainAttrs T) (slot : Slot T name id) (hty : typeOf (.builtin id) = pure (.type "method_descriptor")) (hm : MtR X id r) (ho : PE X o to) (ha : PA X (e :: es) t) (hK : X.K = K := by rfl)
    (hbase : attributeBase o name X.env (eval o X.env) = eval o X.env := by rfl)
    (hfew : ((backTo cpos (starEach (e :: es) X.env)).all (fun x => !x.1) && (backToKw cpos (keywordEach [] X.env)).all (fun x => x.1.isSome)
      && decide ((e :: es).length + ([] : List Keyword).length + (if ([] : List Keyword).isEmpty then 0 else 1) < 30)) = true := by rfl)
    (hline : (apos.endLine == cpos.line) = true := by rfl) (hs : starEach (e :: es) X.env = (false, eval e X.env) :: starEach es X.env := by rfl) (hplain : (backTo cpos (starEach es X.env)).any (·.1) = false := by rfl) :
    PE X (.Call (.Attribute o name apos) (e :: es) [] cpos) (tBM K T r to t) := by
  subst hK
  exact pe_bm pa slot hty hm ho ha hbase hfew hline hs hplain
end
end L2
namespace L2
open PySem PySem.Spec PyProof.Rows
section
variable {prog : Program} {w : World} {A : Around} {E : Value → Shared → Prop} {s : Shared}
end
section
variable {X : Cx} {K : PySem.W.Frag} {e o : Expr} {ta : TA} {to : TE} {p p2 pos pos2 apos cpos : Pos}
end
section
variable {X : Cx} {k : Nat} {e o : Expr} {es : List Expr} {t : TA} {to : TE} {pos : Pos} {S : Addr → Sp → Prop}
end
theorem arg1 {α : Type} {P : List α → Prop} (h : ∀ a0, P [a0]) : ∀ us : List α, us.length = 1 → P us := fun us hl => match us, hl with | [a0], _ => h a0
theorem arg2 {α : Type} {P : List α → Prop} (h : ∀ a0 a1, P [a0, a1]) : ∀ us : List α, us.length = 2 → P us := fun us hl => match us, hl with | [a0, a1], _ => h a0 a1
theorem arg3 {α : Type} {P : List α → Prop} (h : ∀ a0 a1 a2, P [a0, a1, a2]) : ∀ us : List α, us.length = 3 → P us := fun us hl => match us, hl with | [a0, a1, a2], _ => h a0 a1 a2
theorem arg4 {α : Type} {P : List α → Prop} (h : ∀ a0 a1 a2 a3, P [a0, a1, a2, a3]) : ∀ us : List α, us.length = 4 → P us := fun us hl => match us, hl with | [a0, a1, a2, a3], _ => h a0 a1 a2 a3
end L2
namespace L2
open PySem PySem.Spec PyProof.Rows
structure BlkScopeC (X : Cx) (scope : Scope) (cx : Str) (own : List Str) (fr : List (Str × Nat)) : Prop where
  kind : scope.kind = .function
  onec : ∀ y ∈ scope.names, y.2 = .cell → y.1 = cx
  isc : scope.names.lookup cx = some .cell
  lay : ∀ n cl, cellsFrom n scope.names cl = (cx, n) :: cl
  push : ∀ h : Heap, pushCells h scope.names = h.push { cls := .type "cell", data := .cell none }
  loc : ∀ y ∈ scope.names, y.2 = .local → scope.names.lookup y.1 = some .local
  free : ∀ y ∈ scope.names, y.2 = .free → (X.env.scope.names.lookup y.1 = some .cell ∨ X.env.scope.names.lookup y.1 = some .free)
  fr : ∀ p ∈ fr, X.N[p.2]? = some p.1 ∧ (p.1, NameKind.free) ∈ scope.names
  only : ∀ x, (x, NameKind.free) ∈ scope.names → scope.names.lookup x = some .free
section
variable {X : Cx} {pins : List (Addr × Obj)} {σ : St} {H : Hp} {s : Shared} {scope : Scope} {cx : Str} {own : List Str} {fr : List (Str × Nat)} {fp : List Addr}
end
section
variable {X : Cx}
end
section
variable {X : Cx} {scope : Scope} {cx : Str} {own : List Str} {fr : List (Str × Nat)}
end
end L2
namespace L2
open PySem PySem.Spec PyProof.Rows
section
variable {X : Cx} {K : PySem.W.Frag} {scope : Scope} {fr : List (Str × Nat)}
end
end L2
namespace L2
open PySem PySem.Spec PyProof.Rows
section
variable {X : Cx} {e o : Expr} {es : List Expr} {t : TA} {to : TE} {pos : Pos} {S : Addr → Sp → Prop}
end
end L2
namespace L2
open PySem PySem.Spec PyProof.Rows
noncomputable def rMin2 : List V → Hp → VK → Prop := fun xs H Q => ∃ i j, xs = [.int i, .int j] ∧ Q (.int (if j < i then j else i)) H
section
variable {X : Cx} {K : PySem.W.Frag}
theorem k_min2 (hc : X.calm = true := by rfl) : CallR X (.builtin "min") rMin2 := call_min2 hc
end
theorem rd_min2 {H : Hp} {Q : VK} {i j : Int} (h : Q (.int (if j < i then j else i)) H) : rMin2 [.int i, .int j] H Q := ⟨i, j, rfl, h⟩
theorem cut_mid {xs : List V} {k l : Int} (h : 0 ≤ k) (h2 : k ≤ l) : cutV xs (some k) (some l) = (xs.take l.toNat).drop k.toNat := by
  unfold cutV
  have e1 : HT.sIx xs.length 0 (some k) = min k.toNat xs.length := by
    unfold HT.sIx
    simp only
    split <;> omega
  have e2 : HT.sIx xs.length xs.length (some l) = min l.toNat xs.length := by
    unfold HT.sIx
    simp only
    split <;> omega
  rw [e1, e2]
  by_cases q : k.toNat ≤ xs.length
  · rw [Nat.min_eq_left q]
    by_cases q2 : l.toNat ≤ xs.length
    · rw [Nat.min_eq_left q2, List.drop_take]
    · rw [Nat.min_eq_right (by omega), List.take_of_length_le (l := xs) (by omega), List.take_of_length_le (by simp)]
  · rw [List.drop_of_length_le (by omega), List.drop_of_length_le (by simp; omega)]
    simp
end L2
namespace HT
open PySem PySem.Spec PyProof.Rows
variable {prog : Program} {w : World} {A : Around} {E : Value → Shared → Prop} {s : Shared}
end HT
namespace L2
open PySem PySem.Spec PyProof.Rows
theorem eqVs_strs (as bs : List Str) : eqVs (as.map V.str) (bs.map V.str) = decide (as = bs) := by
  rw [Bool.eq_iff_iff, decide_eq_true_iff]
  unfold eqVs
  simp only [Bool.and_eq_true, beq_iff_eq, List.length_map, List.all_eq_true, List.mem_range]
  constructor
  · rintro ⟨h1, h2⟩
    refine List.ext_getElem h1 fun i ha hb => ?_
    have h3 := h2 i ha
    rw [getD_str (by simpa using ha), getD_str (by simpa using hb)] at h3
    have h4 : (as.getD i Str.empty == bs.getD i Str.empty) = true := h3
    rw [beq_iff_eq, getD_el ha, getD_el hb] at h4
    exact h4
  · rintro rfl
    refine ⟨rfl, fun i hi => ?_⟩
    rw [getD_str (by simpa using hi)]
    show (as.getD i Str.empty == as.getD i Str.empty) = true
    rw [beq_iff_eq]
end L2
namespace L2
open PySem PySem.Spec PyProof.Rows
noncomputable def tDispT (tk tv : TE) : TE := fun σ H Q => ∀ p, H p = none → tPairs [(tk, tv)] σ (upd H p (.dT [])) fun ps H2 => ∃ x y, ps = [(x, y)] ∧ ∃ b ks, x = .ref b ∧ H2 b = some (.tup (List.map kV ks)) ∧ H2 p = some (.dT []) ∧ Q (.ref p) (upd H2 p (.dT [(ks, y)]))
theorem rd_dispT {tk tv : TE} {σ : St} {H : Hp} {Q : VK} (h : ∀ p, H p = none → tPairs [(tk, tv)] σ (upd H p (.dT [])) fun ps H2 => ∃ x y, ps = [(x, y)] ∧ ∃ b ks, x = .ref b ∧ H2 b = some (.tup (List.map kV ks)) ∧ H2 p = some (.dT []) ∧ Q (.ref p) (upd H2 p (.dT [(ks, y)]))) : tDispT tk tv σ H Q := h
theorem pe_dispT {X : Cx} {pos : Pos} {k v : Expr} {tk tv : TE} (hu : X.A.units + 1 < cLine) (hk : PE X k tk) (hv : PE X v tv) : PE X (.Dict [some k] [v] pos) (tDispT tk tv) := by
  intro pins s σ H Q I q
  have hn := I.hok.fresh (Nat.le_refl s.heap.objs.size)
  have I1 := I.laid (a := s.heap.objs.size) (o := .dT []) (h' := s.heap.push { cls := .type "dict", data := .dict #[] }) (t' := s.toks) (fun _ _ q => Heap.get?_push_of_some _ q) (Nat.le_refl _) (dt_empty s.heap I.big)
  have hp := pps_cons (pos := pos) hk hv (pps_nil (X := X) (pos := pos))
  refine wpAny_Dict_any rfl rfl (by simp) (by simp) (thn (hp pins _ σ _ _ I1 (q _ hn)) fun ws s2 ⟨ps, H2, I2, rel, x, y, ep, b, ks, ex, eb, e, q2⟩ => ?_)
  · subst ep ex
    cases rel with
    | @cons _ w _ _ rw rr =>
      cases rr
      obtain ⟨u, r⟩ := w
      obtain ⟨ru, rv⟩ := rw
      cases (show u = Value.ref b from ru)
      obtain ⟨z, hd, xs, rel, dd⟩ := dt_of I2.hok e
      cases rel
      show wpAny _ _ (forIn [(Value.ref b, r)] PUnit.unit _) _ _ _
      rw [List.forIn_cons]
      refine wpAny_bind (wpAny_bind (wpAny_dictSet_heap (hsz := by simp) ?_ (key_of I2.hok eb) dd fun h' dd' hs => wpAny_pure ?_))
      · show X.A.units < cLine
        omega
      · show wpAny _ _ (pure PUnit.unit) _ _ _
        refine wpAny_pure ?_
        refine ⟨.ref s.heap.objs.size, _, ?_, rfl, q2⟩
        obtain ⟨q', es, ep, hq, h2, h3, h4, _, h5⟩ := dd'
        refine d_write I2 (by rw [e]; exact True.intro) hs ⟨q', hq⟩ ⟨by show 1 ≤ sizeLine; decide, hd, _, ?_, q', es, ep, hq, h2, h3, h4, h5⟩
        exact .cons ⟨rfl, (upd_ne (ne_of eb e (fun z => nomatch z))).trans eb, rv⟩ .nil
end L2
namespace L2
open PySem PySem.Spec PyProof.Rows
noncomputable def Flown (outer : List Env) (s : Shared) (H' : Hp) (a C t : Addr) (s' : Shared) : Prop :=
  ∃ B : Heap, B.FlyingW outer a (.ref C) (.ref t) s'.heap ∧ ∀ b, (H' b ≠ none ∨ ∃ o, s.heap.get? b = some o) → b ∉ frs outer → ∀ o, s'.heap.get? b = some o → B.get? b = some o
noncomputable def CXE (P : Program) (w : World) : CXT := fun outer H s E e s' =>
  ∃ a C t H', e = .ref a ∧ s'.os = s.os ∧ AllBare s'.gens ∧ Un (frs outer) [] H H' s.heap s'.heap ∧ HOk P w H' s'.heap ∧ Flown outer s H' a C t s' ∧ E (.ref C) none H'
theorem frs_cons {env : Env} {L : Addr} {outer : List Env} (h : env.frame = some L) : frs (env :: outer) = L :: frs outer := by
  unfold frs
  rw [List.filterMap_cons, h]
theorem funs_mem {h base : Heap} : ∀ {l : List Env} {b : Addr}, h.FunFrames base l → b ∈ frs l → base.get? b = none ∧ ∃ o, h.get? b = some o ∧ ∀ vs, o.data ≠ .fields vs
  | [], b, _, hb => by cases hb
  | env :: l, b, ⟨_, ⟨L, o, e1, e2, e3, e4⟩, r⟩, hb => by
    rw [frs_cons e1] at hb
    rcases List.mem_cons.mp hb with rfl | hb
    · exact ⟨e2, o, e3, e4⟩
    · exact funs_mem r hb
end L2
namespace L2
open PySem PySem.Spec PyProof.Rows
section
variable {P : Program} {w : World} {K : PySem.W.Frag} {mg : Str → Option Value} {base : Heap} {N : List Str} {qual : Str} {scope : Scope} {f : Addr} {cd : Value} {A : Around} {outer : List Env} {s₀ : Shared} {H₀ : Hp} {E : XK}
end
end L2
namespace L2
open PySem PySem.Spec PyProof.Rows
section
variable {X : Cx} {pins : List (Addr × Obj)} {σ : St} {H : Hp} {s s₁ : Shared} {E : XK} {e : Value}
end
end L2
namespace L2
open PySem PySem.Spec PyProof.Rows
section
variable {X : Cx} {pins pins0 : List (Addr × Obj)} {σ : St} {H : Hp} {s : Shared} {xe : Value → Shared → Prop}
end
end L2
namespace L2
open PySem PySem.Spec PyProof.Rows PySem.W
end L2
namespace HT
open PySem PySem.Spec PyProof.Rows PySem.W PySem.Calls PySem.Builtin PySem.Builtin.ObjectAttr PySem.Builtin.Getset_descriptor
noncomputable def ExcAt (a C : Addr) (h : Heap) : Prop := ∃ o, h.get? a = some o ∧ o.cls = .ref C
structure ExcKind (K : Frag) (C : Addr) : Prop where
  cl : (clsIn K C).isSome = true
  ga : findIn K (.ref C) "__getattribute__" = some (some (.builtin "BaseException.__getattribute__"))
  ng : findIn K (.ref C) "__getattr__" = some none
  hb : mroIn K C (.type "BaseException") = some true
  ha : findIn K (.ref C) "__class__" = some (some (.builtin "object.__class__"))
  hn : specialIn K (.builtin "object.__class__") "__get__" = some (some (.builtin "getset_descriptor.__get__"))
  htk : takesIn K (.builtin "object.__class__") = some true
  hm : mroIn K C (.type "object") = some true
theorem ExcAt.type {M : Model} {h : Heap} {a C : Addr} (x : ExcAt a C h) : Looks M h (typeOf (.ref a)) (.ref C) := by
  obtain ⟨o, e, c⟩ := x
  exact c ▸ (Looks.ld e).andThen .now
section
variable {prog : Program} {w : World} {A : Around} {E : Value → Shared → Prop} {s : Shared} {K : Frag} {a C : Addr}
end
end HT
namespace L2
open PySem PySem.Spec PyProof.Rows
end L2
namespace HT
open PySem PySem.Spec PyProof.Rows PySem.W
end HT
namespace L2
open PySem PySem.Spec PyProof.Rows
section
variable {X : Cx} {x : Str} {C : Addr} {k : Nat} {ps : List Str} {sp : Sp} {E : XK} {e : Expr} {es : List Expr} {t : TA} {p pos : Pos}
end
end L2
namespace L2
open PySem PySem.Spec PyProof.Rows
section
variable {P : Program} {w : World} {K : PySem.W.Frag} {mg : Str → Option Value} {base : Heap}
end
end L2
namespace L2
open PySem PySem.Spec PyProof.Rows
end L2
namespace L2
open PySem PySem.Spec PyProof.Rows PySem.W
noncomputable def exO (a : Addr) (o : Obj) : HO := .ext fun h => h.get? a = some o
theorem exO_ok {P : Program} {w : World} {H : Hp} {h : Heap} {a : Addr} {o : Obj} (e : h.get? a = some o) : ObjOk P w H h a (exO a o) := ⟨e, ⟨o, e⟩, fun _ _ x k => k o x⟩
theorem exO_get {P : Program} {w : World} {H : Hp} {h : Heap} {a : Addr} {o : Obj} (x : ObjOk P w H h a (exO a o)) : h.get? a = some o := x.1
noncomputable def cxL (P : Program) (w : World) (K : PySem.W.Frag) (mg : Str → Option Value) (base : Heap) (N : List Str) (qual : Str) (scope : Scope) (f : Addr) (cd : Value) (cl : List (Str × Addr)) (A : Around) (outer : List Env) (s : Shared) (H : Hp) (E : XK) : Cx where
  prog := P
  w := w
  K := K
  mg := mg
  base := base
  A := A.deeper (envX qual scope s.heap.objs.size f cd cl)
  N := N
  s₀ := s
  H₀ := H
  env := envX qual scope s.heap.objs.size f cd cl
  outer := outer
  stack := envX qual scope s.heap.objs.size f cd cl :: outer
  ex := []
  calm := true
  fn := fun _ => false
  pn := []
  xe := fun e s' => wpAny (model P w) (A.deeper (envX qual scope s.heap.objs.size f cd cl)) (leaving (envX qual scope s.heap.objs.size f cd cl) e) (fun _ s'' => CXE P w outer H s E e s'') (fun e' s'' => CXE P w outer H s E e' s'') s'
section
variable {P : Program} {w : World} {K : PySem.W.Frag} {mg : Str → Option Value} {base : Heap} {N : List Str} {qual : Str} {scope : Scope} {f : Addr} {cd : Value} {cl : List (Str × Addr)} {A : Around} {outer : List Env} {s : Shared} {H : Hp} {E : XK}
structure ClOkL (N : List Str) (scope : Scope) (cl : List (Str × Addr)) (h : Heap) (H : Hp) (vs : List V) : Prop where
  len : vs.length = N.length
  inj : ∀ x y c, cl.lookup x = some c → cl.lookup y = some c → x = y
  has : ∀ x, (scope.names.lookup x = some .cell ∨ scope.names.lookup x = some .free) → ∃ c, cl.lookup x = some c
  val : ∀ (i : Nat) (x : Str) (v : V), N[i]? = some x → vs[i]? = some v → ∃ c u, scope.names.lookup x = some .free ∧ cl.lookup x = some c ∧ RelV v u ∧ h.IsCell c (some u)
  cell : ∀ x c, cl.lookup x = some c → (∃ v, h.IsCell c v) ∧ H c = none
end
theorem ClOkL.on {N : List Str} {scope : Scope} {cl : List (Str × Addr)} {h h' : Heap} {H H' : Hp} {vs : List V} (C : ClOkL N scope cl h H vs) (k : ∀ x c o, cl.lookup x = some c → h.get? c = some o → h'.get? c = some o ∧ H' c = none) : ClOkL N scope cl h' H' vs := by
  refine ⟨C.len, C.inj, C.has, fun i x v h1 h2 => ?_, fun x c e => ?_⟩
  · obtain ⟨c, u, k1, l, r, o, e, d⟩ := C.val i x v h1 h2
    exact ⟨c, u, k1, l, r, o, (k x c o l e).1, d⟩
  · obtain ⟨⟨v, o, e1, d⟩, _⟩ := C.cell x c e
    exact ⟨⟨v, o, (k x c o e e1).1, d⟩, (k x c o e e1).2⟩
noncomputable def codeO (qual : Str) (oc : Obj) : Prop := ∃ vs t, oc.data = .fields vs ∧ vs[1]? = some (.str qual t)
end L2
namespace L2
open PySem PySem.Spec PyProof.Rows PySem.W
theorem among_app {p : Pos} {c cv : Value} {a b : Int} {t u : Tok} : ∀ (l : List Value), TriplesOk l → codeAmong p (l ++ [.int a t, .int b u, c]) = some cv → codeAmong p l = some cv ∨ cv = c
  | [], _, h => by
    right
    simp only [List.nil_append, codeAmong] at h
    split at h
    · exact (Option.some.inj h).symm
    · cases h
  | .int x tx :: .int y ty :: z :: rest, ok, h => by
    have h : codeAmong p (.int x tx :: .int y ty :: z :: (rest ++ [.int a t, .int b u, c])) = some cv := h
    simp only [codeAmong] at h ⊢
    split at h
    · rename_i hc
      rw [if_pos hc]
      exact .inl h
    · rename_i hc
      rw [if_neg hc]
      exact among_app rest ok h
noncomputable def LamT (H : Hp) (P : Addr) (qual : Str) : Prop := ∃ ps : Array Value, H P = some (.tbl ps) ∧ TriplesOk ps.toList ∧ ∀ pos cv, codeAmong pos ps.toList = some cv → ∃ c' oc, cv = .ref c' ∧ H c' = some (exO c' oc) ∧ codeO qual oc
structure LamX (X : Cx) (c P : Addr) : Prop where
  code : X.env.code = .ref c
  hd : CodeHd X.base c P
  blt : X.base.BuiltinsAt X.mg P
section
variable {X : Cx} {pins : List (Addr × Obj)} {σ : St} {H : Hp} {s : Shared}
theorem mkL {c P : Addr} {params : Arguments} {body : Expr} {scope : Scope} {pos : Pos} {Q : Value → Shared → Prop} {E : Value → Shared → Prop} (L : LamX X c P) (hfree : ∀ y ∈ scope.names, y.2 = .free → X.env.kindOf y.1 = some .cell) (hdef : defaultsOf params X.env = ([], []))
    (I : Inv X pins σ H s) (hT : LamT H P (X.env.qual ++ "<lambda>"))
    (h : ∀ f c' oc pm ctv H' s', Inv X pins σ H' s' → s'.heap.get? f = some (kla_obj "<lambda>" (X.env.qual ++ "<lambda>") params body scope (closOf X.env.cells scope.names []) pm c' ctv) → H' f = none → s.heap.objs.size ≤ f → H' c' = some (exO c' oc) → codeO (X.env.qual ++ "<lambda>") oc →
      LamT H' P (X.env.qual ++ "<lambda>") → (∀ b o, b ≠ P → H b = some o → H' b = some o) → Q (.ref f) s') :
    wpAny (model X.prog X.w) X.A (eval (.Lambda params body scope pos) X.env) Q E s := by
  obtain ⟨ps, hP, ok, hit⟩ := hT
  have hPh : s.heap.get? P = some (tabObj ps) := I.hok P _ hP
  have hcl : closureFor scope X.env = pure (closOf X.env.cells scope.names []) := closureFor_eq fun y hy e => I.ok.has y.1 (.inl (hfree y hy e))
  have hg : s.heap.Ns mainGlobals X.mg := I.mod.glob.keeps I.bk
  have C := L.hd.keeps I.bk
  have nP : ∀ b, H b = none → b ≠ P := fun b n z => by rw [z, hP] at n; cases n
  have hgP : mainGlobals ≠ P := fun q => by
    obtain ⟨o, es, ep, e, d, _⟩ := hg
    rw [q, hPh] at e; cases e; cases d
  have hb : s.heap.BuiltinsAt X.mg P := by
    obtain ⟨bm, o, a1, a2, a3, a4, a5, r⟩ := L.blt
    exact ⟨bm, o, a1, a2, a3, a4, I.bk _ _ a5, r⟩
  refine kla_eval hdef ?_
  cases hc : codeAmong pos ps.toList with
  | some cv =>
    obtain ⟨c', oc, rfl, hc', hoc⟩ := hit pos cv hc
    refine kla_makeFunctionHit hcl I.ok.glob hg L.code C hPh ok hc hb fun ctv h' tk kp sz => ?_
    have kp2 : ∀ b o, s.heap.get? b = some o → (h'.push (kla_obj "<lambda>" (X.env.qual ++ "<lambda>") params body scope (closOf X.env.cells scope.names []) ((X.mg "__name__").getD .none) c' ctv)).get? b = some o := fun b o e => Heap.get?_push_of_some _ (kp b o e)
    refine h h'.objs.size c' oc _ ctv H _ (I.un (Un.kept kp2) (I.hok.kept kp2)) (Heap.get?_push_size _ rfl) (I.hok.fresh sz) sz hc' hoc ⟨ps, hP, ok, hit⟩ fun b o _ e => e
  | none =>
    refine kla_makeFunction hcl I.ok.glob hg L.code C hPh ok hc hgP hb fun c' ctv h' tk hx hge hlt hrec htb => ?_
    obtain ⟨c2, oc, vs, t, e2, hoc, hd, hv⟩ := hrec
    cases e2
    generalize hps : ps ++ #[rawInt pos.line, rawInt pos.col, .ref c'] = ps' at htb
    have hcn : H c' = none := I.hok.fresh hge
    have ncP : c' ≠ P := fun z => by rw [z, hP] at hcn; cases hcn
    generalize hfo : kla_obj "<lambda>" (X.env.qual ++ "<lambda>") params body scope (closOf X.env.cells scope.names []) ((X.mg "__name__").getD .none) c' ctv = fo
    have kp : ∀ b o, b ≠ P → s.heap.get? b = some o → (h'.push fo).get? b = some o := fun b o hb e => Heap.get?_push_of_some _ (hx b o hb e)
    have fz : s.heap.objs.size ≤ h'.objs.size := Nat.le_of_lt (Nat.lt_of_le_of_lt hge hlt)
    have nc : ∀ b u, H b = some u → b ≠ c' := fun b u q z => by rw [z, hcn] at q; cases q
    have nT : ∀ b u, H b = some u → (∀ qs, u ≠ .tbl qs) → b ≠ P := fun b u q n z => by rw [z, hP] at q; cases q; exact n _ rfl
    have old : ∀ b u, b ≠ P → H b = some u → upd (upd H c' (exO c' oc)) P (.tbl ps') b = some u := fun b u hb q => by rw [upd_ne hb, upd_ne (nc b u q)]; exact q
    have hok' : HOk X.prog X.w (upd (upd H c' (exO c' oc)) P (.tbl ps')) (h'.push fo) := fun a o e => by
      by_cases ha : a = P
      · subst ha
        rw [upd_same] at e
        cases e
        exact Heap.get?_push_of_some _ htb
      · rw [upd_ne ha] at e
        by_cases ha2 : a = c'
        · subst ha2
          rw [upd_same] at e
          cases e
          exact exO_ok (Heap.get?_push_of_some _ hoc)
        · rw [upd_ne ha2] at e
          refine (I.hok a o e).stay (fun b u hb q => kp b u ?_ q) (fun b q => old b _ (nT b _ q fun _ z => by cases z) q) fun b xs q => old b _ (nT b _ q fun _ z => by cases z) q
          rcases hb with rfl | hb
          · exact ha
          · exact nT b _ hb fun _ z => by cases z
    have I' : Inv X pins σ (upd (upd H c' (exO c' oc)) P (.tbl ps')) { s with heap := h'.push fo, toks := tk } := by
      refine I.step (g' := s.gens) (d' := s.drawn) (ch := []) (fun _ z => nomatch z) (fun b o _ _ _ e n => kp b o (nP b n) e) (fun b o _ _ _ e n => ⟨o.slots, kp b o (nP b n) e⟩) (fun b o _ e n => ?_) (fun b o _ e => ?_) (fun b xs q => old b _ (nT b _ q fun _ z => by cases z) q) (fun b o u q => old b _ (nT b _ q fun _ z => by cases z) q) (fun b qs q => ?_) (fun m hm => ?_) hok' I.bare
      · rw [upd_ne (nP b n), upd_ne (Nat.ne_of_lt (Nat.lt_of_lt_of_le (Heap.lt_size e) hge))]
        exact n
      · by_cases hb : b = P
        · subst hb
          exact ⟨_, Heap.get?_push_of_some _ htb⟩
        · exact ⟨o, kp b o hb e⟩
      · by_cases hb : b = P
        · subst hb
          rw [hP] at q
          cases q
          exact ⟨_, by rw [upd_same, ← hps]⟩
        · exact ⟨#[], by rw [old b _ hb q]; simp⟩
      · exact (hm.extBut hx (nP _ I.free)).push _
    subst hfo
    refine h h'.objs.size c' oc _ ctv _ _ I' (Heap.get?_push_size _ rfl) ?_ fz ?_ ⟨vs, t, hd, hv⟩ ⟨ps', upd_same, ?_, fun p cv q => ?_⟩ fun b o hb q => old b o hb q
    · have hn : H h'.objs.size = none := I.hok.fresh fz
      rw [upd_ne (nP _ hn), upd_ne (Nat.ne_of_gt hlt)]
      exact hn
    · rw [upd_ne ncP, upd_same]
    · rw [← hps, Array.toList_append]
      exact TriplesOk_snoc _ _ _ _ ok
    · rw [← hps, Array.toList_append] at q
      rcases among_app ps.toList ok q with z | rfl
      · obtain ⟨c1, oc1, e1, e2, e3⟩ := hit p cv z
        exact ⟨c1, oc1, e1, old c1 _ (nT c1 _ e2 fun _ z => by cases z) e2, e3⟩
      · exact ⟨c', oc, rfl, by rw [upd_ne ncP, upd_same], vs, t, hd, hv⟩
end
structure LamOk (params : Arguments) (scope : Scope) : Prop where
  kind : scope.kind = .function
  co : scope.isCoroutine = false
  gen : scope.isGenerator = false
  cell : ∀ x ∈ scope.names, x.2 ≠ .cell
  bind : ∀ (qual : Str) (body : Expr) (cl : List (Str × Addr)) (pm cdv ctv : Value), bindArgs (kla_fn "<lambda>" qual params body scope cl pm cdv ctv) ⟨[], []⟩ = pure []
end L2
namespace L2
open PySem PySem.Spec PyProof.Rows PySem.W
noncomputable def OnlyL (H : Hp) (P : Addr) : Prop := ∀ b, H b = none ∨ (∃ o xs, H b = some (.frz o (.lst xs))) ∨ b = P
theorem law_callL {P : Program} {w : World} {K : PySem.W.Frag} {mg mb : Str → Option Value} {CX : CXT} {k : Nat} {fa a c T : Addr} {fd : FuncData} {x : Str} {sp : Sp} {s₁ : Shared} {vs : List Value} {ns : List Int}
    (KX : K.In s₁.heap) (hns : s₁.heap.Ns mainGlobals mg) (hb : s₁.heap.Ns builtinsNs mb) (hbb : ∀ x : Str, x ≠ "__name__" → mb x = bootBuiltins x) (hlim : s₁.heap.NoLimit) (hg : s₁.gens = #[])
    (ha : s₁.heap.get? a = some { cls := .type "list", data := .seq vs.toArray }) (hi : IntsAre vs ns) (hl : ns.length ≤ sizeLine) (hr : Room k callerA)
    (hT : s₁.heap.get? T = some (tabObj #[])) (hC : CodeHd s₁.heap c T) (hKT : K.lookup T = none) (hTs : T ≠ cStatics) (hB : s₁.heap.BuiltinsAt mg T)
    (F : ∀ base : Heap, K.In base → base.Ns mainGlobals mg → CodeHd base c T → base.BuiltinsAt mg T → FnOk P w K mg base CX k fa fd [x] sp) (hbind : ∀ (s : Shared) (u : Value), BindsTo s fd ⟨[u], []⟩ [(x, u)])
    (hsp : ∀ H : Hp, OnlyL H T → H T = some (.tbl #[]) → SqL K H a (ns.map V.int) → sp [.ref a] H (fun v _ => v = .bl true) fun _ _ _ => False)
    (hCX : ∀ H e s', CX [] H s₁ (fun _ _ _ => False) e s' → False) :
    codeAny (model P w) callerA (.call (.ref fa) ⟨[.ref a], []⟩) (fun r s' => r = .ok (.ret (.bool true)) ∧ OldK s₁.heap s'.heap ∧ s'.os = s₁.os ∧ AllBare s'.gens) s₁ := by
  have rv := vals_ints hi
  have naT : a ≠ T := fun z => by rw [z, hT] at ha; cases ha
  have core : ∀ H : Hp, OnlyL H T → H T = some (.tbl #[]) → SqL K H a (ns.map V.int) → HOk P w H s₁.heap → (∀ b, H b ≠ none → b = a ∨ b = T) → (H a ≠ none → K.lookup a = none) →
      codeAny (model P w) callerA (.call (.ref fa) ⟨[.ref a], []⟩) (fun r s' => r = .ok (.ret (.bool true)) ∧ OldK s₁.heap s'.heap ∧ s'.os = s₁.os ∧ AllBare s'.gens) s₁ := by
    intro H hO hHT hS hok hA hK
    have free : ∀ {b : Addr} {o : Obj}, s₁.heap.get? b = some o → (∀ ws n, o.data ≠ .seq ws n) → (∀ ws, o.data ≠ .fields ws ∨ o.cls ≠ .none) → H b = none := fun {b o} e n1 n2 => by
      cases q : H b with
      | none => rfl
      | some u =>
        rcases hA b (by rw [q]; simp) with z | z
        · rw [z, ha] at e; cases e; exact absurd rfl (n1 _ _)
        · rw [z, hT] at e; cases e
          rcases n2 #[] with z | z
          · exact absurd rfl z
          · exact absurd rfl z
    have nsK : ∀ {b : Addr} {m : Str → Option Value}, s₁.heap.Ns b m → (hidT s₁.heap H).Ns b m := fun {b m} ⟨o, es, ep, e, d, r⟩ => ⟨o, es, ep, hidT_get e (free e (fun ws n => by rw [d]; simp) fun ws => .inl (by rw [d]; simp)), d, r⟩
    have hKb : K.In (hidT s₁.heap H) := fun b o e => hidT_get (KX b o e) (by
      cases q : H b with
      | none => rfl
      | some u =>
        rcases hA b (by rw [q]; simp) with z | z
        · subst z; rw [hK (by rw [q]; simp)] at e; cases e
        · subst z; rw [hKT] at e; cases e)
    have hM : Mod K mg (hidT s₁.heap H) := ⟨hKb, nsK hns, ⟨mb, nsK hb, hbb⟩, let ⟨mc, h1, h2⟩ := hlim; ⟨mc, nsK h1, h2⟩⟩
    have e0 : Env0 P w K mg (hidT s₁.heap H) callerA [] s₁ H := ⟨rfl, hM, fun b o e => of_hidT e, Nat.le_of_eq (hidT_size _ _), trivial, fun b hb => absurd (show b ∈ ([] : List Addr) from hb) (by simp), hok, .of_eq hg⟩
    have hC' : CodeHd (hidT s₁.heap H) c T := by
      obtain ⟨o, us, file, tf, flags, tg, inF, text, tt, e1, r1, r2, r⟩ := hC
      exact ⟨o, us, file, tf, flags, tg, inF, text, tt, hidT_get e1 (free e1 (fun ws n => by rw [r2]; simp) fun ws => .inr (by rw [r1]; simp)), r1, r2, r⟩
    have hB' : (hidT s₁.heap H).BuiltinsAt mg T := by
      obtain ⟨bm, o, a1, a2, a3, a4, a5, a6, a7, a8⟩ := hB
      exact ⟨bm, o, a1, a2, a3, a4, hidT_get a5 (free a5 (fun ws n => by rw [a8]; simp) fun ws => .inl (by rw [a8]; simp)), a6, a7, a8⟩
    refine codeAny_mono ((F _ hKb (nsK hns) hC' hB').run callerA [] s₁ H ⟨[.ref a], []⟩ [.ref a] [.ref a] _ _ hr e0 (hbind s₁ (.ref a)) (.cons rfl .nil) (hsp H hO hHT hS)) fun r s' h => ?_
    match r, h with
    | .error e, h => exact (hCX H e s' h).elim
    | .ok .next, h => exact False.elim h
    | .ok .brk, h => exact False.elim h
    | .ok .cont, h => exact False.elim h
    | .ok (.ret u), ⟨v, H', os, bare, un, hok', r', q⟩ =>
      have q' : v = .bl true := q
      subst q'
      obtain rfl : u = Value.bool true := r'
      have kept : ∀ b o, b ≠ T → s₁.heap.get? b = some o → s'.heap.get? b = some o := fun b o hb e => by
        cases q : H b with
        | none => exact un.keep b o e q (by intro z; exact absurd (show b ∈ ([] : List Addr) from z) (by simp)) (by simp)
        | some u =>
          rcases hO b with z | ⟨ob, xs, z⟩ | z
          · rw [q] at z; cases z
          · obtain ⟨e1, _⟩ := hok b _ z
            obtain ⟨e2, _⟩ := hok' b _ (un.frzs b ob _ z)
            rw [e] at e1; cases e1
            exact e2
          · exact absurd z hb
      obtain ⟨more, hT'⟩ := un.tbls T _ hHT
      have hT2 : s'.heap.get? T = some (tabObj (#[] ++ more)) := hok' T _ hT'
      refine ⟨rfl, ⟨fun b o e => ?_, fun b o e => ?_⟩, os, bare⟩
      · by_cases hb : b = T
        · subst hb
          rw [hT] at e
          cases e
          exact .inr (.inl ⟨(hC.tab hT).isCodeTable, rfl, #[], more, rfl, hT2⟩)
        · exact .inl (kept b o hb e)
      · by_cases hb : b = T
        · subst hb
          exact ⟨_, hT2⟩
        · exact ⟨o, kept b o hb e⟩
  cases hk : K.lookup a with
  | some o =>
    have e := KX a o hk
    rw [ha] at e
    cases e
    refine core (fun b => if b = T then some (.tbl #[]) else none) (fun b => ?_) (if_pos rfl) (.inr ⟨_, vs.toArray, _, hk, rfl, rfl, rfl, by rw [List.size_toArray, hi.length]; exact hl, by simpa using rv⟩) (fun b u z => ?_) (fun b z => ?_) fun z => absurd (if_neg naT) z
    · by_cases hb : b = T
      · exact .inr (.inr hb)
      · exact .inl (if_neg hb)
    · by_cases hb : b = T
      · have z' := (if_pos hb).symm.trans z
        cases z'
        subst hb
        exact hT
      · have z' := (if_neg hb).symm.trans z
        cases z'
    · by_cases hb : b = T
      · exact .inr hb
      · exact absurd (if_neg hb) z
  | none =>
    refine core (fun b => if b = T then some (.tbl #[]) else if b = a then some (.frz { cls := .type "list", data := .seq vs.toArray } (.lst (ns.map V.int))) else none) (fun b => ?_) (if_pos rfl) (.inl (.inr ⟨{ cls := .type "list", data := .seq vs.toArray }, (if_neg naT).trans (if_pos rfl)⟩)) (fun b u z => ?_) (fun b z => ?_) fun _ => hk
    · by_cases hb : b = T
      · exact .inr (.inr hb)
      · by_cases hb2 : b = a
        · exact .inr (.inl ⟨_, _, (if_neg hb).trans (if_pos hb2)⟩)
        · exact .inl ((if_neg hb).trans (if_neg hb2))
    · by_cases hb : b = T
      · have z' := (if_pos hb).symm.trans z
        cases z'
        subst hb
        exact hT
      · by_cases hb2 : b = a
        · have z' := ((if_neg hb).trans (if_pos hb2)).symm.trans z
          cases z'
          subst hb2
          exact ⟨ha, by rw [List.length_map]; exact hl, vs, _, rv, ha⟩
        · have z' := ((if_neg hb).trans (if_neg hb2)).symm.trans z
          cases z'
    · by_cases hb : b = T
      · exact .inr hb
      · by_cases hb2 : b = a
        · exact .inl hb2
        · exact absurd ((if_neg hb).trans (if_neg hb2)) z
theorem blt_at {p : Program} {loose : List Str} {mean : ExcName → Option Value} {mg mb : Str → Option Value} {h : Heap} {T : Addr} (t : Top p loose mean mg mb h) (hT : h.get? T = some (tabObj #[])) : h.BuiltinsAt mg T := by
  obtain ⟨bm, ob, b1, b2, b3, b4, b5, b6⟩ := t.bmain
  refine ⟨bm, ob, b1, b2, fun q => ?_, fun q => ?_, b3, b4, b5, b6⟩
  · obtain ⟨o, es, ep, e, hd, _⟩ := t.g
    rw [q, e] at b3; cases b3; rw [hd] at b6; cases b6
  · rw [q, hT] at b3; cases b3; cases b4
theorem walk_ofL {l : PySem.W.OpenLaw} {n k : Nat} {q : Program} {loose : List Str} {XP : (Str → Option Value) → Heap → Prop} {YP : World → Heap → Prop} {d : DefRec} {K : Params → PySem.W.Frag} {CX : World → CXT} {sp : World → Addr → Sp} {x : Str} {ts : List Addr}
    (hn : l.most = some n) (hn2 : n ≤ sizeLine) (hdf : d.params.defaults = []) (hr : Room k callerA)
    (hY : ∀ (w : World) (h : Heap), YP w h → (K w.params).In h) (hYt : ∀ (w : World) (h : Heap), YP w h → ∀ P ∈ ts, h.get? P = some (tabObj #[])) (hnt : ∀ w : World, noTabs (K w.params) = true)
    (F : ∀ (w : World) (mg : Str → Option Value) (fa : Addr) (h : Heap), (K w.params).In h → h.Ns mainGlobals mg → mg d.name = some (.ref fa) →
      ∃ (fd : FuncData) (c T : Addr), (∀ (s : Shared) (u : Value), BindsTo s fd ⟨[u], []⟩ [(x, u)]) ∧ T ∈ ts ∧ T ≠ cStatics ∧ (∀ h' : Heap, (K w.params).In h' → CodeHd h' c T) ∧
        ∀ base : Heap, (K w.params).In base → base.Ns mainGlobals mg → CodeHd base c T → base.BuiltinsAt mg T → FnOk l.prog w (K w.params) mg base (CX w) k fa fd [x] (sp w T))
    (hsp : ∀ (w : World) (H : Hp) (a T : Addr) (ns : List Int), ns.length ≤ n → OnlyL H T → H T = some (.tbl #[]) → SqL (K w.params) H a (ns.map V.int) → sp w T [.ref a] H (fun v _ => v = .bl true) fun _ _ _ => False)
    (hCX : ∀ (w : World) (H : Hp) (s : Shared) (e : Value) (s' : Shared), CX w [] H s (fun _ _ _ => False) e s' → False) :
    PySem.W.WalkO q loose XP YP l.row.toRowW d [] (fun f vs => PySem.call f vs) := by
  refine Att.attach_call hn hdf fun w s₀ s₁ mg mb fa o pm cd doc a vs ns G Y ho hd hcd hmg hobj hints hlen hg => ?_
  have KX := hY w _ Y
  obtain ⟨fd, c, T, hb, hm, hs, hC, hF⟩ := F w mg fa _ KX G.T.g hmg
  have hT := hYt w _ Y T hm
  have hK : (K w.params).lookup T = none := by
    cases e : (K w.params).lookup T with
    | none => rfl
    | some o =>
      have e2 := KX T o e
      rw [hT] at e2
      cases e2
      have h2 := List.all_eq_true.mp (hnt w) _ (mem_of_lookupK e)
      exact absurd (show false = true from h2) Bool.false_ne_true
  exact law_callL KX G.T.g G.T.b G.T.builtins G.T.nolimit hg hobj hints (Nat.le_trans hlen hn2) hr hT (hC _ KX) hK hs (blt_at G.T hT) hF hb (fun H hO h1 hS => hsp w H a T ns hlen hO h1 hS) fun H e s' => hCX w H s₁ e s'
theorem lam_start {H : Hp} {T : Addr} {qual : Str} (h : H T = some (.tbl #[])) : LamT H T qual := ⟨#[], h, trivial, fun _ _ z => by cases z⟩
section
variable {P : Program} {w : World} {K : PySem.W.Frag} {mg : Str → Option Value} {base : Heap}
theorem Fun.okL {x qual : Str} {st : Stmt} {f c : Addr} {fd : FuncData} {N ps : List Str} {k : Nat} {sp : Sp} (F : Fun K x qual st f fd) (hc : fd.code = .ref c) (S : FnScope N ps (defScope st)) (len : ∀ vs H Q E, sp vs H Q E → vs.length = ps.length)
    (hbody : ∀ (A : Around) (outer : List Env) (s : Shared) (H : Hp) (vs : List V) (Q : VK) (E : XK), Room k (A.deeper (envOfC qual (defScope st) s.heap.objs.size f (.ref c))) → sp vs H Q E →
      ∃ t, PSs (cxOf CX0 P w K mg base N qual (defScope st) f (.ref c) A outer s H E).nox (defBody st) t ∧ t { nx := fun _ H' => Q .non H', rt := Q } (start N vs) H) : FnOk P w K mg base CX0 (k + 1) f fd ps sp := by
  obtain ⟨oc, od, kV, doc, pm, an, cdv, ct, osl, rfl, lk, hcd⟩ := F.ex
  obtain rfl : cdv = .ref c := hc
  refine fn_of lk hcd S len fun A outer s H vs Q E hr hsp => ?_
  obtain ⟨t, h, q⟩ := hbody A outer s H vs Q E hr hsp
  exact ⟨t, h.nox, q⟩
structure ThAt (s : Shared) (H : Hp) (outer : List Env) (f c' : Addr) (oc : Obj) (N : List Str) (qual : Str) (scope : Scope) (cl : List (Str × Addr)) (params : Arguments) (body : Expr) (pm ctv : Value) (vs : List V) : Prop where
  hf : s.heap.get? f = some (kla_obj "<lambda>" qual params body scope cl pm c' ctv)
  hf0 : H f = none
  nf : f ∉ frs outer
  hc : H c' = some (exO c' oc)
  hoc : codeO qual oc
  C : ClOkL N scope cl s.heap H vs
  nc : ∀ x c, cl.lookup x = some c → c ∉ frs outer
  lo : LamOk params scope
end
end L2
namespace L2
open PySem PySem.Spec PyProof.Rows PySem.W
noncomputable def isFree : NameKind → Bool | .free => true | _ => false
noncomputable def isCell : NameKind → Bool | .cell => true | _ => false
noncomputable def isCellO : Option NameKind → Bool | some .cell => true | _ => false
noncomputable def isFreeO : Option NameKind → Bool | some .free => true | _ => false
noncomputable def lamChk (N : List Str) (idx : List Nat) (sc : List (Str × NameKind)) (XN : List Str) (Xsc : List (Str × NameKind)) : Bool :=
  sc.all (fun y => !(isCell y.2) && (!(isFree y.2) || isCellO (Xsc.lookup y.1))) && (N.length == idx.length) && (N.zip idx).all fun p => (XN[p.2]? == some p.1) && isFreeO (sc.lookup p.1) && isCellO (Xsc.lookup p.1)
theorem lookup_mem {α : Type} {x : Str} {v : α} : ∀ {l : List (Str × α)}, l.lookup x = some v → (x, v) ∈ l
  | (y, u) :: l, h => by
    rw [List.lookup_cons] at h
    cases e : x == y with
    | true =>
      rw [e] at h
      cases h
      rw [eq_of_beq e]
      exact List.mem_cons_self
    | false =>
      rw [e] at h
      exact List.mem_cons_of_mem _ (lookup_mem h)
theorem isFreeO_eq {k : Option NameKind} (h : isFreeO k = true) : k = some .free := by
  unfold isFreeO at h
  split at h
  · rfl
  · cases h
theorem isCellO_eq {k : Option NameKind} (h : isCellO k = true) : k = some .cell := by
  unfold isCellO at h
  split at h
  · rfl
  · cases h
theorem chk_cell {N : List Str} {idx : List Nat} {sc : List (Str × NameKind)} {XN : List Str} {Xsc : List (Str × NameKind)} (h : lamChk N idx sc XN Xsc = true) : ∀ y ∈ sc, y.2 ≠ .cell := fun y hy e => by
  simp only [lamChk, Bool.and_eq_true, List.all_eq_true] at h
  have := (h.1.1 y hy).1
  rw [e] at this
  cases this
theorem chk_free {N : List Str} {idx : List Nat} {sc : List (Str × NameKind)} {XN : List Str} {Xsc : List (Str × NameKind)} (h : lamChk N idx sc XN Xsc = true) : ∀ y ∈ sc, y.2 = .free → Xsc.lookup y.1 = some .cell := fun y hy e => by
  simp only [lamChk, Bool.and_eq_true, List.all_eq_true] at h
  have := (h.1.1 y hy).2
  rw [e] at this
  exact isCellO_eq (by simpa [isFree] using this)
theorem chk_len {N : List Str} {idx : List Nat} {sc : List (Str × NameKind)} {XN : List Str} {Xsc : List (Str × NameKind)} (h : lamChk N idx sc XN Xsc = true) : N.length = idx.length := by
  simp only [lamChk, Bool.and_eq_true] at h
  exact eq_of_beq h.1.2
theorem chk_N {N : List Str} {idx : List Nat} {sc : List (Str × NameKind)} {XN : List Str} {Xsc : List (Str × NameKind)} (h : lamChk N idx sc XN Xsc = true) (i : Nat) (y : Str) (hy : N[i]? = some y) : ∃ j, idx[i]? = some j ∧ XN[j]? = some y ∧ sc.lookup y = some .free ∧ Xsc.lookup y = some .cell := by
  have hl := chk_len h
  simp only [lamChk, Bool.and_eq_true, List.all_eq_true] at h
  obtain ⟨hi, e⟩ := List.getElem?_eq_some_iff.mp hy
  have hi2 : i < idx.length := by omega
  have hm : (y, idx[i]) ∈ N.zip idx := by
    refine List.mem_iff_getElem.mpr ⟨i, by rw [List.length_zip]; omega, ?_⟩
    rw [List.getElem_zip, e]
  obtain ⟨⟨h1, h2⟩, h3⟩ := h.2 _ hm
  exact ⟨idx[i], by simp [hi2], eq_of_beq h1, isFreeO_eq h2, isCellO_eq h3⟩
noncomputable def bar (T : Addr) (H : Hp) : Hp := fun b => if b = T then none else H b
theorem bar_some {T : Addr} {H : Hp} {b : Addr} {o u : HO} (h : H b = some o) (hT : H T = some u) (n : u ≠ o) : bar T H b = some o := by
  refine (if_neg fun z => ?_).trans h
  rw [z, hT] at h
  cases h
  exact n rfl
theorem bar_same {T : Addr} {H : Hp} : Same (bar T H) H := fun b o e => by
  by_cases hb : b = T
  · have e' := (if_pos hb).symm.trans e
    cases e'
  · exact (if_neg hb).symm.trans e
theorem bar_go {T : Addr} {H H' H'' : Hp} (s : Same (bar T H) H') (k : ∀ b o, b ≠ T → H' b = some o → H'' b = some o) : Same (bar T H) H'' := fun b o e => by
  by_cases hb : b = T
  · have e' := (if_pos hb).symm.trans e
    cases e'
  · exact k b o hb (s b o e)
theorem LamT.same {H H' : Hp} {T : Addr} {q : Str} (h : LamT H T q) (s : Same H H') : LamT H' T q := by
  obtain ⟨ps, h1, h2, h3⟩ := h
  refine ⟨ps, s _ _ h1, h2, fun p cv e => ?_⟩
  obtain ⟨c', oc, e1, e2, e3⟩ := h3 p cv e
  exact ⟨c', oc, e1, s _ _ e2, e3⟩
end L2
namespace L2
open PySem PySem.Spec PyProof.Rows PySem.W
structure LamV (P : Program) (w : World) (K : PySem.W.Frag) (mg : Str → Option Value) (base : Heap) (k : Nat) (f : Addr) (sp : Sp) : Prop where
  obj : FnAt f base
  run : ∀ (A : Around) (outer : List Env) (s : Shared) (H : Hp) (u : Value) (v : V) (Q : VK), Room k A → Env0 P w K mg base A outer s H → RelV v u → sp [v] H Q E0 → codeAny (model P w) A (.call (.ref f) ⟨[u], []⟩) (CR CX0 outer P w H s Q E0) s
noncomputable def tCallL (f : Addr) (sp : Sp) (to : TE) (t : TA) : TE := fun σ H Q => to σ H fun v H1 => v = .ref f ∧ t σ H1 fun vs H2 => ∃ x, vs = [x] ∧ sp [x] H2 Q E0
theorem pe_callL {X : Cx} {k : Nat} {f : Addr} {sp : Sp} {o e : Expr} {to : TE} {t : TA} {pos : Pos} (L : LamV X.prog X.w X.K X.mg X.base k f sp) (hr : Room k X.A) (ho : PE X o to) (ha : PA X [e] t)
    (ht : eval (.Call o [e] [] pos) X.env = (do callWith pos (← eval o X.env) [] (backTo pos (starEach [e] X.env)) (backToKw pos (keywordEach [] X.env))) := by rfl)
    (he : starEach [e] X.env = (false, eval e X.env) :: starEach [] X.env := by rfl) : PE X (.Call o [e] [] pos) (tCallL f sp to t) := by
  intro pins s σ H Q I h
  rw [ht]
  refine wpAny_bind (thn (ho pins s σ H _ I h) fun u s1 ⟨x, H1, I1, rx, ex, q⟩ => ?_)
  subst ex
  obtain rfl : u = Value.ref f := rx
  have at' : ∀ {s' : Shared} {H' : Hp}, Inv X pins σ H' s' → FnAt f s'.heap := fun I' => by
    obtain ⟨oc, od, fd, sl, e⟩ := L.obj
    exact ⟨oc, od, fd, sl, I'.bk _ _ e⟩
  refine callWith_F (at' I1) (thn (ha pos pins s1 σ H1 _ I1 q) fun us s2 ⟨vs, H2, I2, r, x, ev, q2⟩ => ⟨at' I2, ?_⟩) he rfl
  subst ev
  obtain ⟨u2, rfl, rv⟩ := vals1 r
  refine wpAny_call (codeAny_mono (L.run X.A X.stack s2 H2 u2 x Q hr I2.env0 rv q2) fun r s' hq => ?_)
  cases r with
  | error e => exact False.elim hq
  | ok fl =>
    cases fl with
    | ret u => exact I2.after hq
    | next => exact False.elim hq
    | brk => exact False.elim hq
    | cont => exact False.elim hq
section
variable {P : Program} {w : World} {K : PySem.W.Frag} {mg : Str → Option Value} {base : Heap} {N : List Str} {qual x : Str} {scope : Scope} {f : Addr} {cd : Value} {cl : List (Str × Addr)} {A : Around} {outer : List Env} {s : Shared} {H : Hp} {E : XK}
theorem inv_startL1 {vs : List V} {h' : Heap} {tk : Nat} {u : Value} {v : V} (hk : scope.kind = .function) (hloc : scope.names.lookup x = some .local) (hd : A.handled = none) (e0 : Env0 P w K mg base A outer s H) (C : ClOkL N scope cl s.heap H vs) (rv : RelV v u) (hns : h'.Ns s.heap.objs.size fun y => ([(x, u)] : List (Str × Value)).reverse.lookup y) (kp : ∀ b o, s.heap.get? b = some o → h'.get? b = some o) :
    Inv (cxL P w K mg base (x :: N) qual scope f cd cl A outer s H E) [] (some v :: vs.map some) H { s with heap := h', toks := tk } := by
  have noA : ∀ b : Addr, b ∉ (cxL P w K mg base (x :: N) qual scope f cd cl A outer s H E).ex := fun b z => absurd (show b ∈ ([] : List Addr) from z) (by simp)
  have ic : ∀ c v, s.heap.IsCell c v → h'.IsCell c v := fun c v ⟨o, e, d⟩ => ⟨o, kp _ _ e, d⟩
  refine ⟨⟨e0.mod, hk, rfl, rfl, Nat.le_refl _, C.inj, C.has, fun y c z _ => (by cases z), fun _ => hd, Around.frames_deeper e0.frames, .inr ⟨rfl, rfl⟩, fun b z => absurd z (noA b), e0.bs, e0.bsz, fun b _ _ => noA b, fun b z => absurd z (noA b), e0.funs, e0.frf⟩,
    rfl, e0.bare, Un.kept kp, ⟨_, hns, fun i y v' h1 h2 h3 => ?_⟩, fun y c h => ?_, e0.hok.fresh (Nat.le_refl _), fun y c h => (C.cell y c h).2, fun p hp => absurd (show p ∈ ([] : List (Addr × Obj)) from hp) (by simp), e0.hok.kept kp, by show (some v :: vs.map some).length = (x :: N).length; rw [List.length_cons, List.length_cons, List.length_map, C.len]⟩
  · cases i with
    | zero =>
      have e1 : x = y := by
        have h1 : (x :: N)[0]? = some y := h1
        simpa using h1
      have e2 : v = v' := by simpa using h2
      subst e1 e2
      refine ⟨u, rv, .inl ⟨hloc, ?_⟩⟩
      show ([(x, u)] : List (Str × Value)).reverse.lookup x = some u
      simp
    | succ i =>
      have h1 : N[i]? = some y := by
        have h1 : (x :: N)[i + 1]? = some y := h1
        simpa using h1
      have h2 : (vs.map some)[i]? = some (some v') := by simpa using h2
      have h2' : vs[i]? = some v' := by
        rw [List.getElem?_map] at h2
        cases e : vs[i]? with
        | none => rw [e] at h2; cases h2
        | some a => rw [e] at h2; cases h2; rfl
      obtain ⟨c, u, k, l, r, ce⟩ := C.val i y v' h1 h2'
      exact ⟨u, r, .inr ⟨.inr k, c, l, ic _ _ ce⟩⟩
  · obtain ⟨v, z⟩ := (C.cell y c h).1
    exact ⟨v, ic _ _ z⟩
theorem runL1 {k : Nat} {params : Arguments} {body : Expr} {pm ctv : Value} {c' : Addr} {vs : List V} {Q : VK} {tb : TE} {u : Value} {v : V} (ho : s.heap.get? f = some (kla_obj "<lambda>" qual params body scope cl pm c' ctv)) (hcd : s.heap.CodeRec (.ref c') qual) (hr : Room (k + 1) A) (e0 : Env0 P w K mg base A outer s H)
    (hk : scope.kind = .function) (hco : scope.isCoroutine = false) (hgen : scope.isGenerator = false) (hcell : ∀ y ∈ scope.names, y.2 ≠ .cell) (hloc : scope.names.lookup x = some .local) (hbind : bindArgs (kla_fn "<lambda>" qual params body scope cl pm (.ref c') ctv) ⟨[u], []⟩ = pure [(x, u)]) (C : ClOkL N scope cl s.heap H vs) (rv : RelV v u)
    (hb : PE (cxL P w K mg base (x :: N) qual scope f (.ref c') cl A outer s H E0) body tb) (h : tb (some v :: vs.map some) H Q) : codeAny (model P w) A (.call (.ref f) ⟨[u], []⟩) (CR CX0 outer P w H s Q E0) s := by
  have lim : s.heap.NoLimit := e0.mod.nolimit.keeps fun b o e => (e0.bs b o e).1
  refine kla_callFunE hr.depth ho rfl hco hgen rfl hcd ?_
  rw [hbind]
  refine wpAny_pure (wpAny_newFunctionEnv hcell (fun y hy => ?_) (fun h₁ hns hsb => ⟨lim.fresh _ hsb, ?_⟩) hk)
  · rw [List.mem_singleton.mp hy]; exact hloc
  have kp : ∀ b o, s.heap.get? b = some o → h₁.get? b = some o := fun b o e => hsb.extBut b o (Nat.ne_of_lt (Heap.lt_size e)) (Heap.get?_push_of_some _ e)
  show codeAny _ _ (.expr body (envX qual scope s.heap.objs.size f (.ref c') cl)) _ _
  refine kla_codeExpr ?_
  have I : Inv (cxL P w K mg base (x :: N) qual scope f (.ref c') cl A outer s H E0) [] (some v :: vs.map some) H { s with heap := h₁, toks := s.toks + 1 } := inv_startL1 hk hloc hr.hd e0 C rv hns kp
  refine wpAny_mono (hb [] _ _ H Q I h) (fun u s' hs => ?_) fun e s' hs => ?_
  · obtain ⟨v, H', J, rv, q⟩ := hs
    exact ⟨v, H', J.os, J.bare, J.base, J.hok, rv, q⟩
  · refine wpAny_mono hs (fun _ s2 z => ?_) fun _ s2 z => ?_
    · obtain ⟨a, C, t, H', rfl, os, bare, un, hok, b, q⟩ := z
      exact q.elim
    · obtain ⟨a, C, t, H', rfl, os, bare, un, hok, b, q⟩ := z
      exact q.elim
end
noncomputable def spL (c' : Addr) (oc : Obj) (tb : TE) (vs : List V) : Sp := fun us H Q _ => ∃ v, us = [v] ∧ H c' = some (exO c' oc) ∧ tb (some v :: vs.map some) H Q
noncomputable def tLam (P : Addr) (qual : Str) (idx : List Nat) (sp : Addr → Sp → Sp) (t1 t2 tb : TE) : TE := fun σ H Q => t1 σ H fun v1 H1 => t2 σ H1 fun v2 H2 => LamT H2 P qual ∧ ∃ vs : List V, vs.length = idx.length ∧ (∀ (i j : Nat), idx[i]? = some j → ∃ v, vs[i]? = some v ∧ σ[j]? = some (some v)) ∧
  ∀ H' f c' oc, LamT H' P qual → (∀ b o, b ≠ P → H2 b = some o → H' b = some o) → H' c' = some (exO c' oc) → sp f (spL c' oc tb vs) [v1, v2, .ref f] H' Q E0
noncomputable def baseOf (h : Heap) (H : Hp) (fs : List Addr) : Heap := hideAll h (trk h H ++ fs)
theorem baseOf_get {h : Heap} {H : Hp} {fs : List Addr} {b : Addr} {o : Obj} (e : h.get? b = some o) (n : H b = none) (nf : b ∉ fs) : (baseOf h H fs).get? b = some o :=
  hideAll_get _ e fun hm => by
    rcases List.mem_append.mp hm with z | z
    · have q : (H b).isSome = true := (List.mem_filter.mp z).2
      rw [n] at q; simp at q
    · exact nf z
theorem of_baseOf {h : Heap} {H : Hp} {fs : List Addr} {b : Addr} {o : Obj} (e : (baseOf h H fs).get? b = some o) : h.get? b = some o ∧ H b = none := by
  have e' : h.get? b = some o := of_hideAll _ e
  refine ⟨e', ?_⟩
  cases q : H b with
  | none => rfl
  | some x =>
    have hm : b ∈ trk h H := List.mem_filter.mpr ⟨List.mem_range.mpr (Heap.lt_size e'), by simp [q]⟩
    rw [show (baseOf h H fs).get? b = none from hideAll_none _ (List.mem_append_left _ hm)] at e
    cases e
theorem funs_baseL {h base base' : Heap} : ∀ {l : List Env}, h.FunFrames base l → (∀ b ∈ frs l, base'.get? b = none) → h.FunFrames base' l
  | [], _, _ => trivial
  | env :: rest, ⟨k, ⟨L, o, e1, e2, e3, e4⟩, r⟩, n => by
    have hf : frs (env :: rest) = L :: frs rest := frs_cons e1
    exact ⟨k, ⟨L, o, e1, n L (by rw [hf]; exact List.mem_cons_self), e3, e4⟩, funs_baseL r fun b hb => n b (by rw [hf]; exact List.mem_cons_of_mem _ hb)⟩
theorem env_base {X : Cx} {pins : List (Addr × Obj)} {σ : St} {H : Hp} {s : Shared} (I : Inv X pins σ H s) : Env0 X.prog X.w X.K X.mg (baseOf s.heap H (frs X.stack)) X.A X.stack s H := by
  have sub : ∀ b o, X.base.get? b = some o → (baseOf s.heap H (frs X.stack)).get? b = some o := fun b o e => baseOf_get (I.bs b o e).1 (I.bs b o e).2 fun z => by
    have := (funs_mem I.stack z).1
    rw [e] at this; cases this
  have nsK : ∀ {b : Addr} {m : Str → Option Value}, X.base.Ns b m → (baseOf s.heap H (frs X.stack)).Ns b m := fun {b m} ⟨o, es, ep, e, r⟩ => ⟨o, es, ep, sub _ _ e, r⟩
  refine ⟨I.ok.frames, ⟨I.ok.mod.kin.keeps sub, nsK I.ok.mod.glob, ?_, ?_⟩, fun b o e => of_baseOf e, Nat.le_of_eq (hideAll_size _ _), funs_baseL I.stack fun b hb => hideAll_none _ (List.mem_append_right _ hb), I.stkFree, I.hok, I.bare⟩
  · obtain ⟨mb, h1, h2⟩ := I.ok.mod.blt
    exact ⟨mb, nsK h1, h2⟩
  · exact I.ok.mod.nolimit.keeps sub
theorem pe_lam {X : Cx} {x y : Str} {c P : Addr} {k kb : Nat} {ps : List Str} {sp : Addr → Sp → Sp} {params : Arguments} {body e1 e2 : Expr} {scope : Scope} {p lpos pos : Pos} {t1 t2 tb : TE} {N : List Str} {idx : List Nat}
    (hm : ∃ fs, X.mg x = some (.ref fs) ∧ keepIn X.K (.ref fs) = true)
    (hC : ∀ (base' : Heap) (f : Addr) (sL : Sp), LamV X.prog X.w X.K X.mg base' (kb + 1) f sL → CallF X.prog X.w X.K X.mg base' x k ps (sp f sL)) (hr : Room k X.A) (L : LamX X c P) (h1 : PE X e1 t1) (h2 : PE X e2 t2)
    (hb : ∀ (f c' : Addr) (cl : List (Str × Addr)) (base' : Heap) (A' : Around) (outer' : List Env) (s' : Shared) (H' : Hp) (E' : XK), Room kb (A'.deeper (envX (X.env.qual ++ "<lambda>") scope s'.heap.objs.size f (.ref c') cl)) → PE (cxL X.prog X.w X.K X.mg base' (y :: N) (X.env.qual ++ "<lambda>") scope f (.ref c') cl A' outer' s' H' E') body tb)
    (hchk : lamChk N idx scope.names X.N X.env.scope.names = true) (hloc : scope.names.lookup y = some .local) (hst : X.stack = X.env :: X.outer := by rfl) (hfm : X.env.frame = some X.env.locals := by rfl) (hfn : ∀ y, X.fn y = true := by intro _; rfl)
    (hk : scope.kind = .function := by rfl) (hco : scope.isCoroutine = false := by rfl) (hgen : scope.isGenerator = false := by rfl) (hbd : ∀ (u : Value) (qual : Str) (body : Expr) (cl : List (Str × Addr)) (pm cdv ctv : Value), bindArgs (kla_fn "<lambda>" qual params body scope cl pm cdv ctv) ⟨[u], []⟩ = pure [(y, u)] := by intros; rfl)
    (hdef : defaultsOf params X.env = ([], []) := by rfl) (hg : Gl X x := by rfl) (hdb : (x == ("__debug__" : Str)) = false := by decide)
    (he : starEach [e1, e2, .Lambda params body scope lpos] X.env = [(false, eval e1 X.env), (false, eval e2 X.env), (false, eval (.Lambda params body scope lpos) X.env)] := by rfl)
    (he1 : starEach [e1, e2, .Lambda params body scope lpos] X.env = (false, eval e1 X.env) :: starEach [e2, .Lambda params body scope lpos] X.env := by rfl)
    (hpl : (backTo pos (starEach [e2, .Lambda params body scope lpos] X.env)).any (·.1) = false := by rfl) :
    PE X (.Call (.Name x p) [e1, e2, .Lambda params body scope lpos] [] pos) (tLam P (X.env.qual ++ "<lambda>") idx sp t1 t2 tb) := by
  intro pins s σ H Q I h
  obtain ⟨fs, hm, hkp⟩ := hm
  have hfree := chk_free hchk
  have hmem : ∀ y, (scope.names.lookup y = some .cell ∨ scope.names.lookup y = some .free) → (y, NameKind.free) ∈ scope.names := fun y hy => by
    rcases hy with hy | hy
    · exact absurd rfl (chk_cell hchk _ (lookup_mem hy))
    · exact lookup_mem hy
  have hN := chk_N hchk
  refine wpAny_Call_Name_kw (ld_glob I hg hm ?_ hdb)
  refine PySem.W.callWith_K (h₀ := X.base) I.ok.mod.kin hkp ?_ he1 hpl
  rw [he]
  show wpAny _ _ (spliced ((false, eval e1 X.env) :: (false, eval e2 X.env) :: (false, eval (.Lambda params body scope lpos) X.env) :: [])) _ _ s
  refine Calls.spliced_cons (thn (h1 pins s σ H _ I h) fun u1 s1 ⟨v1, H1, I1, r1, q1⟩ => ?_)
  refine Calls.spliced_cons (thn (h2 pins s1 σ H1 _ I1 q1) fun u2 s2 ⟨v2, H2, I2, r2, hT, vs, lv, hv, h⟩ => ?_)
  refine Calls.spliced_cons (mkL L hfree hdef I2 hT fun f c' oc pm ctv H' s' I' hf hf0 fz hc' hoc hT' old => ?_)
  refine Calls.spliced_nil ⟨I'.kIn, ?_⟩
  have sub : ∀ y a, (closOf X.env.cells scope.names []).lookup y = some a → X.env.cells.lookup y = some a := closOf_sub scope.names [] fun y a z => by cases z
  have hfs : frs X.stack = X.env.locals :: frs X.outer := by rw [hst]; exact frs_cons hfm
  have C : ClOkL N scope (closOf X.env.cells scope.names []) s'.heap H' vs := by
    refine ⟨by rw [lv, chk_len hchk], fun y z a h1 h2 => I.ok.inj y z a (sub y a h1) (sub z a h2), fun y hy => ?_, fun i y v h1 h2 => ?_, fun y a e => ⟨I'.cell y a (sub y a e), I'.freeC y a (sub y a e)⟩⟩
    · exact closOf_has scope.names [] y (.inl ⟨hmem y hy, I.ok.has y (.inl (hfree _ (hmem y hy) rfl))⟩)
    · obtain ⟨j, hj, hXN, hk, hcell⟩ := hN i y h1
      obtain ⟨v', hv', hσ⟩ := hv i j hj
      have ev : v' = v := Option.some.inj (hv'.symm.trans h2)
      subst ev
      obtain ⟨m, hn, hl⟩ := id I'.loc
      obtain ⟨u, r, lk⟩ := hl j y v' hXN hσ (.inr (.inl hcell))
      obtain ⟨a, ha⟩ := closOf_has (cells := X.env.cells) scope.names [] y (.inl ⟨hmem y (.inr hk), I.ok.has y (.inl hcell)⟩)
      rcases lk with ⟨kk, _⟩ | ⟨_, a', e', ce⟩
      · have kk : X.env.scope.names.lookup y = some .local := kk
        rw [hcell] at kk; cases kk
      · have := sub y a ha
        rw [e'] at this
        cases this
        exact ⟨a, u, hk, ha, r, ce⟩
  have nc : ∀ y a, (closOf X.env.cells scope.names []).lookup y = some a → a ∉ frs X.stack := fun y a e z => by
    have e := sub y a e
    rw [hfs] at z
    rcases List.mem_cons.mp z with z | z
    · exact I.cne y a e z
    · obtain ⟨_, o, ho, _⟩ := funs_mem I.ok.funs z
      have := I.ok.cab y a (hfn y) e
      exact absurd (Nat.lt_of_lt_of_le (Heap.lt_size ho) this) (Nat.lt_irrefl _)
  have nf : f ∉ frs X.stack := fun z => by
    obtain ⟨_, o, ho, _⟩ := funs_mem I2.stack z
    exact absurd (Nat.lt_of_lt_of_le (Heap.lt_size ho) fz) (Nat.lt_irrefl _)
  have e0 := env_base I'
  have bf : (baseOf s'.heap H' (frs X.stack)).get? f = _ := baseOf_get hf hf0 nf
  have LV : LamV X.prog X.w X.K X.mg (baseOf s'.heap H' (frs X.stack)) (kb + 1) f (spL c' oc tb vs) := by
    refine ⟨⟨_, _, _, _, bf⟩, fun A outer s3 H3 u v Q3 hr3 e3 rv ⟨v', ev, hc3, q3⟩ => ?_⟩
    cases ev
    obtain ⟨vs', t, d, e1⟩ := hoc
    have hcd : s3.heap.CodeRec (.ref c') (X.env.qual ++ "<lambda>") := ⟨c', oc, vs', t, rfl, exO_get (e3.hok c' _ hc3), d, e1⟩
    have C3 : ClOkL N scope (closOf X.env.cells scope.names []) s3.heap H3 vs := C.on fun y c o l e => e3.bs c o (baseOf_get e (C.cell y c l).2 (nc y c l))
    exact runL1 (tb := tb) (e3.bs _ _ bf).1 hcd hr3 e3 hk hco hgen (chk_cell hchk) hloc (hbd _ _ _ _ _ _ _) C3 rv (hb f c' _ _ A outer s3 H3 E0 (hr3.deeper _)) q3
  obtain ⟨f2, fd, hm2, _, F, hbi⟩ := hC _ f _ LV
  rw [hm] at hm2
  cases hm2
  have q := h H' f c' oc hT' old hc'
  have r3 : Vals [v1, v2, .ref f] [u1, u2, .ref f] := .cons r1 (.cons r2 (.cons rfl .nil))
  have hl : ([u1, u2, .ref f] : List Value).length = ps.length := by rw [← r3.length]; exact F.len _ _ _ _ q
  refine wpAny_call (codeAny_mono (F.run X.A X.stack s' H' ⟨[u1, u2, .ref f], []⟩ [u1, u2, .ref f] _ Q E0 hr e0 (by have := hbi s' [u1, u2, .ref f] I'.kIn (by simpa using hl); simpa using this) r3 q) fun r s3 hq => ?_)
  cases r with
  | error e => exact False.elim hq
  | ok fl =>
    cases fl with
    | ret u => exact I'.after hq
    | next => exact False.elim hq
    | brk => exact False.elim hq
    | cont => exact False.elim hq
theorem rd_callL {f : Addr} {sp : Sp} {to : TE} {t : TA} {σ : St} {H : Hp} {Q : VK} (h : to σ H fun v H1 => v = .ref f ∧ t σ H1 fun vs H2 => ∃ x, vs = [x] ∧ sp [x] H2 Q E0) : tCallL f sp to t σ H Q := h
theorem rd_lam {T : Addr} {q : Str} {idx : List Nat} {sp : Addr → Sp → Sp} {t1 t2 tb : TE} {σ : St} {H : Hp} {Q : VK} (h : t1 σ H fun v1 H1 => t2 σ H1 fun v2 H2 => LamT H2 T q ∧ ∃ vs : List V, vs.length = idx.length ∧ (∀ (i j : Nat), idx[i]? = some j → ∃ v, vs[i]? = some v ∧ σ[j]? = some (some v)) ∧
    ∀ H' f c' oc, LamT H' T q → (∀ b o, b ≠ T → H2 b = some o → H' b = some o) → H' c' = some (exO c' oc) → sp f (spL c' oc tb vs) [v1, v2, .ref f] H' Q E0) : tLam T q idx sp t1 t2 tb σ H Q := h
end L2
namespace MFew
noncomputable def rep {α : Type} (u : List α) : Nat → List α
  | 0 => []
  | t + 1 => u ++ rep u t
section
variable {α : Type}
theorem rep_len (u : List α) : ∀ t, (rep u t).length = u.length * t
  | 0 => rfl
  | t + 1 => by rw [rep, List.length_append, rep_len u t, Nat.mul_succ, Nat.add_comm]
theorem rep_add (u : List α) (s : Nat) : ∀ t, rep u (t + s) = rep u t ++ rep u s
  | 0 => by rw [Nat.zero_add]; rfl
  | t + 1 => by rw [Nat.succ_add, rep, rep, rep_add u s t, List.append_assoc]
theorem rep_flat (u : List α) : ∀ t, (List.replicate t u).flatten = rep u t
  | 0 => rfl
  | t + 1 => by rw [List.replicate_succ, List.flatten_cons, rep_flat u t, rep]
inductive Cost : List α → Nat → Prop
  | nil : Cost [] 0
  | one (x : α) {l : List α} {m : Nat} : Cost l m → Cost (x :: l) (m + 1)
  | grp {u l : List α} {m k : Nat} (t : Nat) : 2 ≤ t → u ≠ [] → Cost u m → Cost l k → Cost (rep u t ++ l) (m + k + 2)
theorem cost_len : ∀ l : List α, Cost l l.length
  | [] => .nil
  | x :: l => .one x (cost_len l)
noncomputable def Least (l : List α) (m : Nat) : Prop := Cost l m ∧ ∀ k, Cost l k → m ≤ k
theorem Least.uniq {l : List α} {m m' : Nat} (h : Least l m) (h' : Least l m') : m = m' := Nat.le_antisymm (h.2 _ h'.1) (h'.2 _ h.1)
theorem least_ex (l : List α) : ∃ m, Least l m := by
  have : ∀ n, (∃ m, Least l m) ∨ ∀ k, k < n → ¬ Cost l k := by
    intro n
    induction n with
    | zero => exact .inr fun k hk => absurd hk (Nat.not_lt_zero _)
    | succ n ih =>
      rcases ih with h | h
      · exact .inl h
      · by_cases c : Cost l n
        · exact .inl ⟨n, c, fun k hk => by
            rcases Nat.lt_or_ge k n with z | z
            · exact absurd hk (h k z)
            · exact z⟩
        · refine .inr fun k hk => ?_
          rcases Nat.lt_or_ge k n with z | z
          · exact h k z
          · rw [show k = n by omega]; exact c
  rcases this (l.length + 1) with h | h
  · exact h
  · exact absurd (cost_len l) (h _ (Nat.lt_succ_self _))
noncomputable def M (l : List α) : Nat := Classical.choose (least_ex l)
theorem M_least (l : List α) : Least l (M l) := Classical.choose_spec (least_ex l)
theorem M_le {l : List α} {m : Nat} (h : Cost l m) : M l ≤ m := (M_least l).2 m h
theorem M_nil : M ([] : List α) = 0 := (M_least []).uniq ⟨.nil, fun _ _ => Nat.zero_le _⟩
noncomputable def sl (xs : List α) (i j : Nat) : List α := (xs.drop i).take (j - i)
theorem sl_len {xs : List α} {i j : Nat} (h : j ≤ xs.length) : (sl xs i j).length = j - i := by
  unfold sl; rw [List.length_take, List.length_drop]; omega
theorem sl_drop {xs : List α} {i j d : Nat} : (sl xs i j).drop d = sl xs (i + d) j := by
  unfold sl; rw [List.drop_take, List.drop_drop]; congr 1; omega
theorem sl_take {xs : List α} {i j d : Nat} (h : i + d ≤ j) : (sl xs i j).take d = sl xs i (i + d) := by
  unfold sl; rw [List.take_take]; congr 1; omega
theorem sl_all (xs : List α) : sl xs 0 xs.length = xs := by unfold sl; simp
theorem sl_nil (xs : List α) (i : Nat) : sl xs i i = [] := by unfold sl; simp
theorem sl_app {xs : List α} {i m j : Nat} (h1 : i ≤ m) (h2 : m ≤ j) : sl xs i m ++ sl xs m j = sl xs i j := by
  have e1 := sl_take (xs := xs) (i := i) (j := j) (d := m - i) (by omega)
  have e2 := sl_drop (xs := xs) (i := i) (j := j) (d := m - i)
  rw [show i + (m - i) = m by omega] at e1 e2
  rw [← e1, ← e2, List.take_append_drop]
theorem sl_cons {xs : List α} {i j : Nat} (h : i < j) (hj : j ≤ xs.length) : sl xs i j = xs[i]'(by omega) :: sl xs (i + 1) j := by
  unfold sl
  rw [List.drop_eq_getElem_cons (by omega), show j - i = (j - (i + 1)) + 1 by omega, List.take_succ_cons]
theorem rep_take (u l : List α) (t : Nat) (ht : 1 ≤ t) : (rep u t ++ l).take u.length = u := by
  obtain ⟨s, rfl⟩ : ∃ s, t = s + 1 := ⟨t - 1, by omega⟩
  rw [rep, List.append_assoc, List.take_left']
  rfl
theorem rep_at (u l : List α) {t k : Nat} (hk : k < t) : ((rep u t ++ l).drop (u.length * k)).take u.length = u := by
  obtain ⟨s, rfl⟩ : ∃ s, t = k + (s + 1) := ⟨t - k - 1, by omega⟩
  rw [rep_add, List.append_assoc, ← rep_len u k, List.drop_left, rep_take _ _ _ (by omega)]
theorem rep_rest (u l : List α) (t : Nat) : (rep u t ++ l).drop (u.length * t) = l := by
  rw [← rep_len, List.drop_left]
theorem period {l : List α} {p : Nat} : ∀ {t : Nat}, l.length = p * t → l.take (l.length - p) = l.drop p → l = rep (l.take p) t := by
  intro t
  induction t generalizing l with
  | zero => intro h _; rw [Nat.mul_zero] at h; rw [List.length_eq_zero_iff.mp h]; rfl
  | succ t ih =>
    intro h e
    have hm : p * (t + 1) = p * t + p := Nat.mul_succ p t
    cases t with
    | zero =>
      show l = l.take p ++ []
      rw [List.append_nil, List.take_of_length_le (by omega)]
    | succ s =>
      have hs : p * (s + 1) = p * s + p := Nat.mul_succ p s
      have hl : (l.drop p).length = p * (s + 1) := by rw [List.length_drop]; omega
      have q : (l.drop p).take ((l.drop p).length - p) = (l.drop p).drop p := by
        conv => rhs; rw [← e]
        rw [List.drop_take, hl, show l.length - p - p = p * (s + 1) - p by omega]
      have r := ih hl q
      have ht : (l.drop p).take p = l.take p := by
        rw [← e, List.take_take]
        congr 1
        omega
      rw [ht] at r
      rw [rep, ← r, List.take_append_drop]
theorem period_of {u : List α} {t : Nat} (ht : 1 ≤ t) : (rep u t).take ((rep u t).length - u.length) = (rep u t).drop u.length := by
  obtain ⟨s, rfl⟩ : ∃ s, t = s + 1 := ⟨t - 1, by omega⟩
  have e1 : rep u (s + 1) = rep u s ++ u := by rw [rep_add]; simp [rep]
  have e2 : (rep u (s + 1)).drop u.length = rep u s := by rw [rep, List.drop_left]
  rw [e2]
  conv => lhs; rw [e1]
  rw [List.length_append, Nat.add_sub_cancel, List.take_left]
variable (opn : Nat → α) (cls : α) (plain : α → Prop)
inductive Spr : List α → List α → Prop
  | nil : Spr [] []
  | one (x : α) {ws l : List α} : plain x → Spr ws l → Spr (x :: ws) (x :: l)
  | grp (t : Nat) {us u ws l : List α} : 2 ≤ t → t ≤ 60 → u ≠ [] → Spr us u → Spr ws l → Spr (opn t :: (us ++ cls :: ws)) (rep u t ++ l)
variable {opn cls plain}
theorem Spr.app {ws l ws' l' : List α} (h : Spr opn cls plain ws l) (h' : Spr opn cls plain ws' l') : Spr opn cls plain (ws ++ ws') (l ++ l') := by
  induction h with
  | nil => exact h'
  | one x p _ ih => exact .one x p ih
  | grp t h1 h2 hu a _ _ ih =>
    rw [List.append_assoc, List.cons_append, List.append_assoc, List.cons_append]
    exact .grp t h1 h2 hu a ih
theorem Spr.cost {ws l : List α} (h : Spr opn cls plain ws l) : Cost l ws.length := by
  induction h with
  | nil => exact .nil
  | one x _ _ ih => exact .one x ih
  | grp t h1 _ hu _ _ ih1 ih2 =>
    have := Cost.grp t h1 hu ih1 ih2
    simp only [List.length_cons, List.length_append]
    rw [show ∀ a b : Nat, a + (b + 1) + 1 = a + b + 2 by omega]
    exact this
theorem Spr.ne {ws l : List α} (h : Spr opn cls plain ws l) (hl : l ≠ []) : ws ≠ [] := by
  cases h with
  | nil => exact absurd rfl hl
  | one x _ _ => simp
  | grp t _ _ _ _ _ => simp
noncomputable def better (b : Option (List α)) (c : List α) : Option (List α) :=
  match b with
  | none => some c
  | some b => if c.length < b.length then some c else some b
theorem better_fold : ∀ (cs : List (List α)) (b : Option (List α)) (c : List α), cs.foldl better b = some c → (b = some c ∨ c ∈ cs) ∧ (∀ b', b = some b' → c.length ≤ b'.length) ∧ ∀ d ∈ cs, c.length ≤ d.length
  | [], b, c, h => ⟨.inl h, fun b' e => by rw [List.foldl_nil, e] at h; cases h; exact Nat.le_refl _, fun d hd => nomatch hd⟩
  | d :: cs, b, c, h => by
    rw [List.foldl_cons] at h
    obtain ⟨h1, h2, h3⟩ := better_fold cs _ c h
    cases b with
    | none =>
      have e : better none d = some d := rfl
      rw [e] at h1 h2
      refine ⟨.inr ?_, fun b' e => (by cases e), fun d' hd' => ?_⟩
      · rcases h1 with h1 | h1
        · cases h1; exact List.mem_cons_self
        · exact List.mem_cons_of_mem _ h1
      · rcases List.mem_cons.mp hd' with rfl | z
        · exact h2 _ rfl
        · exact h3 _ z
    | some b0 =>
      by_cases hc : d.length < b0.length
      · have e : better (some b0) d = some d := if_pos hc
        rw [e] at h1 h2
        have g := h2 _ rfl
        refine ⟨.inr ?_, fun b' e => by cases e; omega, fun d' hd' => ?_⟩
        · rcases h1 with h1 | h1
          · cases h1; exact List.mem_cons_self
          · exact List.mem_cons_of_mem _ h1
        · rcases List.mem_cons.mp hd' with rfl | z
          · exact g
          · exact h3 _ z
      · have e : better (some b0) d = some b0 := if_neg hc
        rw [e] at h1 h2
        have g := h2 _ rfl
        refine ⟨?_, fun b' e => by cases e; exact g, fun d' hd' => ?_⟩
        · rcases h1 with h1 | h1
          · exact .inl h1
          · exact .inr (List.mem_cons_of_mem _ h1)
        · rcases List.mem_cons.mp hd' with rfl | z
          · omega
          · exact h3 _ z
theorem better_some : ∀ (cs : List (List α)) (b : Option (List α)), (b ≠ none ∨ cs ≠ []) → ∃ c, cs.foldl better b = some c
  | [], b, h => by
    cases b with
    | none => rcases h with h | h <;> exact absurd rfl h
    | some b => exact ⟨b, rfl⟩
  | d :: cs, b, h => by
    rw [List.foldl_cons]
    refine better_some cs _ (.inl ?_)
    cases b with
    | none => exact fun z => absurd (show (some d : Option (List α)) = none from z) (by simp)
    | some b =>
      by_cases hc : d.length < b.length
      · rw [show better (some b) d = some d from if_pos hc]
        exact fun z => by cases z
      · rw [show better (some b) d = some b from if_neg hc]
        exact fun z => by cases z
section
variable [DecidableEq α] (opn : Nat → α) (cls : α) (T : Nat → Nat → List α) (xs : List α) (i j : Nat)
noncomputable def cand (p : Nat) : Option (List α) := if (j - i) % p ≠ 0 ∨ 60 < (j - i) / p then none else if sl xs i (j - p) ≠ sl xs (i + p) j then none else some (opn ((j - i) / p) :: (T i (i + p) ++ [cls]))
noncomputable def gStep (b : Option (List α)) (p : Nat) : Option (List α) := match cand opn cls T xs i j p with
  | none => b
  | some c => better b c
noncomputable def asGroup : Option (List α) := (List.range' 1 ((j - i) / 2)).foldl (gStep opn cls T xs i j) none
noncomputable def mids : Option (List α) := (List.range' (i + 1) (j - i - 1)).foldl (fun b m => better b (T i m ++ T m j)) (asGroup opn cls T xs i j)
noncomputable def fewW : List α := if j - i = 1 then sl xs i j else (mids opn cls T xs i j).getD []
end
theorem gfold [DecidableEq α] {opn : Nat → α} {cls : α} {T : Nat → Nat → List α} {xs : List α} {i j : Nat} : ∀ (ps : List Nat) (b : Option (List α)), ps.foldl (gStep opn cls T xs i j) b = (ps.filterMap (cand opn cls T xs i j)).foldl better b
  | [], b => rfl
  | p :: ps, b => by
    rw [List.foldl_cons, gfold ps, List.filterMap_cons]
    unfold gStep
    split <;> rename_i h <;> rw [h]
    rfl
theorem mfold {T : Nat → Nat → List α} {i j : Nat} : ∀ (ms : List Nat) (b : Option (List α)), ms.foldl (fun b m => better b (T i m ++ T m j)) b = (ms.map fun m => T i m ++ T m j).foldl better b
  | [], b => rfl
  | m :: ms, b => by rw [List.foldl_cons, mfold ms, List.map_cons, List.foldl_cons]
theorem few_ok [DecidableEq α] {opn : Nat → α} {cls : α} {plain : α → Prop} {T : Nat → Nat → List α} {xs : List α} {i j : Nat} (hx : ∀ x ∈ xs, plain x) (h60 : xs.length ≤ 60) (hij : i < j) (hj : j ≤ xs.length)
    (ih : ∀ a b, a < b → b ≤ xs.length → b - a < j - i → Spr opn cls plain (T a b) (sl xs a b) ∧ ∀ k, Cost (sl xs a b) k → (T a b).length ≤ k) :
    Spr opn cls plain (fewW opn cls T xs i j) (sl xs i j) ∧ ∀ k, Cost (sl xs i j) k → (fewW opn cls T xs i j).length ≤ k := by
  have hl := sl_len (i := i) hj
  by_cases h1 : j - i = 1
  · have e : fewW opn cls T xs i j = sl xs i j := if_pos h1
    rw [e]
    have e2 : sl xs i j = [xs[i]'(by omega)] := by
      have e3 : sl xs (i + 1) j = [] := by unfold sl; rw [show j - (i + 1) = 0 by omega]; rfl
      rw [sl_cons hij hj, e3]
    refine ⟨?_, fun k hk => ?_⟩
    · rw [e2]
      exact .one _ (hx _ (List.getElem_mem _)) .nil
    · rw [hl, h1]
      generalize sl xs i j = L at hk hl
      cases hk with
      | nil => simp at hl; omega
      | one x _ => omega
      | grp t _ _ _ _ => omega
  have e : fewW opn cls T xs i j = (mids opn cls T xs i j).getD [] := if_neg h1
  have em : mids opn cls T xs i j = ((List.range' (i + 1) (j - i - 1)).map fun m => T i m ++ T m j).foldl better (asGroup opn cls T xs i j) := mfold _ _
  obtain ⟨c, hc⟩ := better_some ((List.range' (i + 1) (j - i - 1)).map fun m => T i m ++ T m j) (asGroup opn cls T xs i j) (.inr fun z => by
    have := congrArg List.length z
    rw [List.length_map, List.length_range'] at this
    simp at this
    omega)
  rw [← em] at hc
  rw [e, hc]
  show Spr opn cls plain c _ ∧ ∀ k, _ → c.length ≤ k
  rw [em] at hc
  obtain ⟨g1, g2, g3⟩ := better_fold _ _ _ hc
  have ga : asGroup opn cls T xs i j = ((List.range' 1 ((j - i) / 2)).filterMap (cand opn cls T xs i j)).foldl better none := gfold _ _
  have grpOk : ∀ p d, p ∈ List.range' 1 ((j - i) / 2) → cand opn cls T xs i j p = some d → Spr opn cls plain d (sl xs i j) := by
    intro p d hp hd
    have hp := List.mem_range'_1.mp hp
    unfold cand at hd
    split at hd
    · cases hd
    · rename_i n1
      split at hd
      · cases hd
      · rename_i n2
        cases hd
        have n2 : sl xs i (j - p) = sl xs (i + p) j := Decidable.of_not_not n2
        have hm : (j - i) % p = 0 := Decidable.of_not_not fun z => n1 (.inl z)
        have ht : (j - i) / p ≤ 60 := Nat.le_of_not_lt fun z => n1 (.inr z)
        have hd : p * ((j - i) / p) = j - i := by have := Nat.div_add_mod (j - i) p; omega
        have t2 : 2 ≤ (j - i) / p := (Nat.le_div_iff_mul_le (by omega)).mpr (by omega)
        have per := period (l := sl xs i j) (p := p) (t := (j - i) / p) (by rw [hl, hd]) (by rw [hl, sl_take (by omega), sl_drop, show i + (j - i - p) = j - p by omega]; exact n2)
        rw [sl_take (by omega)] at per
        have := Spr.grp (opn := opn) (cls := cls) (plain := plain) ((j - i) / p) t2 ht (u := sl xs i (i + p)) (fun z => by have := sl_len (xs := xs) (i := i) (j := i + p) (by omega); rw [z] at this; simp at this; omega) (ih i (i + p) (by omega) (by omega) (by omega)).1 .nil
        rw [List.append_nil, ← per] at this
        exact this
  refine ⟨?_, fun k hk => ?_⟩
  · rcases g1 with g1 | g1
    · rw [ga] at g1
      obtain ⟨q1, _, _⟩ := better_fold _ _ _ g1
      rcases q1 with q1 | q1
      · cases q1
      · obtain ⟨p, hp, hd⟩ := List.mem_filterMap.mp q1
        exact grpOk p c hp hd
    · obtain ⟨m, hm, rfl⟩ := List.mem_map.mp g1
      have hm := List.mem_range'_1.mp hm
      rw [← sl_app (xs := xs) (i := i) (m := m) (j := j) (by omega) (by omega)]
      exact (ih i m (by omega) (by omega) (by omega)).1.app (ih m j (by omega) (by omega) (by omega)).1
  ·
    have split_at : ∀ m k1 k2, i < m → m < j → Cost (sl xs i m) k1 → Cost (sl xs m j) k2 → c.length ≤ k1 + k2 := fun m k1 k2 a b c1 c2 => by
      have := g3 _ (List.mem_map.mpr ⟨m, List.mem_range'_1.mpr ⟨by omega, by omega⟩, rfl⟩)
      rw [List.length_append] at this
      have := (ih i m a (by omega) (by omega)).2 _ c1
      have := (ih m j b (by omega) (by omega)).2 _ c2
      omega
    generalize hL : sl xs i j = L at hk
    cases hk with
    | nil => rw [hL] at hl; simp at hl; omega
    | one x hk1 =>
      rename_i l m
      rw [sl_cons hij hj] at hL
      injection hL with e1 e2
      have c1 : Cost (sl xs i (i + 1)) 1 := by
        rw [sl_cons (by omega) (by omega), sl_nil]
        exact .one _ .nil
      have := split_at (i + 1) 1 m (by omega) (by omega) c1 (by rw [e2]; exact hk1)
      omega
    | grp t h2 hu c1 c2 =>
      rename_i u l m k
      have hlen := congrArg List.length hL
      rw [hl, List.length_append, rep_len] at hlen
      have hu0 : 0 < u.length := List.length_pos_iff.mpr hu
      have hmul : u.length * 2 ≤ u.length * t := Nat.mul_le_mul_left _ h2
      have et : u = sl xs i (i + u.length) := by
        rw [← sl_take (j := j) (by omega), hL, rep_take _ _ _ (by omega)]
      by_cases hl0 : l = []
      · subst hl0
        rw [List.append_nil] at hL
        simp only [List.length_nil, Nat.add_zero] at hlen
        have hmod : (j - i) % u.length = 0 := by rw [hlen, Nat.mul_mod_right]
        have hdiv : (j - i) / u.length = t := by rw [hlen, Nat.mul_div_cancel_left _ hu0]
        have t60 : t ≤ 60 := by
          have : 1 * t ≤ u.length * t := Nat.mul_le_mul_right _ hu0
          omega
        have hper : sl xs i (j - u.length) = sl xs (i + u.length) j := by
          have := period_of (u := u) (t := t) (by omega)
          rw [← hL, hl, sl_take (by omega), sl_drop, show i + (j - i - u.length) = j - u.length by omega] at this
          exact this
        have hcand : cand opn cls T xs i j u.length = some (opn t :: (T i (i + u.length) ++ [cls])) := by
          unfold cand
          rw [if_neg (by rw [hmod, hdiv]; omega), if_neg (fun z => z hper), hdiv]
        have hin : (opn t :: (T i (i + u.length) ++ [cls])) ∈ (List.range' 1 ((j - i) / 2)).filterMap (cand opn cls T xs i j) :=
          List.mem_filterMap.mpr ⟨u.length, List.mem_range'_1.mpr ⟨by omega, by
            have : u.length ≤ (j - i) / 2 := (Nat.le_div_iff_mul_le (by decide)).mpr (by omega)
            omega⟩, hcand⟩
        obtain ⟨b, hb⟩ := better_some ((List.range' 1 ((j - i) / 2)).filterMap (cand opn cls T xs i j)) none (.inr fun z => by rw [z] at hin; cases hin)
        have q3 := (better_fold _ _ _ hb).2.2 _ hin
        have := g2 b (by rw [ga]; exact hb)
        have q4 := (ih i (i + u.length) (by omega) (by omega) (by omega)).2 m (by rw [← et]; exact c1)
        simp only [List.length_cons, List.length_append, List.length_nil] at q3
        omega
      · have hl1 : 0 < l.length := List.length_pos_iff.mpr hl0
        have er : l = sl xs (i + u.length * t) j := by
          rw [← sl_drop, hL, rep_rest]
        have ep : rep u t = sl xs i (i + u.length * t) := by
          rw [← sl_take (j := j) (by omega), hL, ← rep_len, List.take_left]
        have cg : Cost (sl xs i (i + u.length * t)) (m + 0 + 2) := by
          have := Cost.grp t h2 hu c1 .nil
          rw [List.append_nil, ep] at this
          exact this
        have := split_at (i + u.length * t) (m + 0 + 2) k (by omega) (by omega) cg (by rw [← er]; exact c2)
        omega
noncomputable def Wf [DecidableEq α] (opn : Nat → α) (cls : α) (xs : List α) : Nat → Nat → Nat → List α
  | 0 => fun _ _ => []
  | L + 1 => fun i j => if j - i = L + 1 then fewW opn cls (Wf opn cls xs L) xs i j else Wf opn cls xs L i j
noncomputable def W [DecidableEq α] (opn : Nat → α) (cls : α) (xs : List α) (i j : Nat) : List α := Wf opn cls xs (j - i) i j
theorem Wf_eq [DecidableEq α] {opn : Nat → α} {cls : α} {xs : List α} {i j : Nat} : ∀ {L : Nat}, j - i ≤ L → Wf opn cls xs L i j = W opn cls xs i j
  | 0, h => by unfold W; rw [show j - i = 0 by omega]
  | L + 1, h => by
    by_cases e : j - i = L + 1
    · unfold W; rw [e]
    · show (if j - i = L + 1 then _ else Wf opn cls xs L i j) = _
      rw [if_neg e]
      exact Wf_eq (by omega)
theorem fmap_congr {β γ : Type} {f g : β → Option γ} : ∀ {l : List β}, (∀ x ∈ l, f x = g x) → l.filterMap f = l.filterMap g
  | [], _ => rfl
  | x :: l, h => by rw [List.filterMap_cons, List.filterMap_cons, h x List.mem_cons_self, fmap_congr fun y hy => h y (List.mem_cons_of_mem _ hy)]
theorem fewW_congr [DecidableEq α] {opn : Nat → α} {cls : α} {xs : List α} {i j : Nat} {T T' : Nat → Nat → List α} (h : ∀ a b, i ≤ a → a < b → b ≤ j → b - a < j - i → T a b = T' a b) : fewW opn cls T xs i j = fewW opn cls T' xs i j := by
  unfold fewW mids asGroup
  rw [gfold, gfold, mfold, mfold]
  have e1 : (List.range' 1 ((j - i) / 2)).filterMap (cand opn cls T xs i j) = (List.range' 1 ((j - i) / 2)).filterMap (cand opn cls T' xs i j) := by
    refine fmap_congr fun p hp => ?_
    have hp := List.mem_range'_1.mp hp
    unfold cand
    rw [h i (i + p) (by omega) (by omega) (by omega) (by omega)]
  have e2 : ((List.range' (i + 1) (j - i - 1)).map fun m => T i m ++ T m j) = (List.range' (i + 1) (j - i - 1)).map fun m => T' i m ++ T' m j := by
    refine List.map_congr_left fun m hm => ?_
    have hm := List.mem_range'_1.mp hm
    rw [h i m (by omega) (by omega) (by omega) (by omega), h m j (by omega) (by omega) (by omega) (by omega)]
  rw [e1, e2]
theorem W_step [DecidableEq α] {opn : Nat → α} {cls : α} {xs : List α} {i j : Nat} (h : i < j) : W opn cls xs i j = fewW opn cls (W opn cls xs) xs i j := by
  obtain ⟨L, hL⟩ : ∃ L, j - i = L + 1 := ⟨j - i - 1, by omega⟩
  have : W opn cls xs i j = fewW opn cls (Wf opn cls xs L) xs i j := by
    unfold W
    rw [hL]
    exact if_pos hL
  rw [this]
  exact fewW_congr fun a b _ h1 h2 h3 => Wf_eq (by omega)
theorem W_ok [DecidableEq α] {opn : Nat → α} {cls : α} {plain : α → Prop} {xs : List α} (hx : ∀ x ∈ xs, plain x) (h60 : xs.length ≤ 60) : ∀ (n i j : Nat), i < j → j ≤ xs.length → j - i ≤ n →
    Spr opn cls plain (W opn cls xs i j) (sl xs i j) ∧ ∀ k, Cost (sl xs i j) k → (W opn cls xs i j).length ≤ k
  | 0, i, j, h, hj, hn => by omega
  | n + 1, i, j, h, hj, hn => by
    rw [W_step h]
    exact few_ok hx h60 h hj fun a b h1 h2 h3 => W_ok hx h60 n a b h1 h2 (by omega)
theorem W_all [DecidableEq α] {opn : Nat → α} {cls : α} {plain : α → Prop} {xs : List α} (hx : ∀ x ∈ xs, plain x) (h60 : xs.length ≤ 60) (h0 : xs ≠ []) : Spr opn cls plain (W opn cls xs 0 xs.length) xs ∧ (W opn cls xs 0 xs.length).length = M xs := by
  have := W_ok (opn := opn) (cls := cls) hx h60 xs.length 0 xs.length (List.length_pos_iff.mpr h0) (Nat.le_refl _) (by omega)
  rw [sl_all] at this
  exact ⟨this.1, Nat.le_antisymm (this.2 _ (M_least xs).1) (M_le this.1.cost)⟩
noncomputable def Blk (xs : List α) (b size t : Nat) : Prop := ∀ k, k < t → sl xs (b + size * k) (b + size * k + size) = sl xs b (b + size)
theorem blk_rep {xs : List α} {b size : Nat} : ∀ {t : Nat}, Blk xs b size t → sl xs b (b + size * t) = rep (sl xs b (b + size)) t
  | 0, _ => by rw [Nat.mul_zero, Nat.add_zero, sl_nil]; rfl
  | t + 1, h => by
    rw [rep_add (t := t) (s := 1), ← blk_rep fun k hk => h k (by omega)]
    have := h t (Nat.lt_succ_self _)
    rw [show rep (sl xs b (b + size)) 1 = sl xs b (b + size) by simp [rep], ← this, Nat.mul_succ, ← Nat.add_assoc, sl_app (by omega) (by omega)]
theorem law_opt {xs : List α} {b e size t : Nat} (hs : 1 ≤ size) (h2 : 2 ≤ t) (he : b + size * t ≤ e) (hx : e ≤ xs.length) (h : Blk xs b size t) : Cost (sl xs b e) (2 + M (sl xs b (b + size)) + M (sl xs (b + size * t) e)) := by
  have : size * 2 ≤ size * t := Nat.mul_le_mul_left _ h2
  have c := Cost.grp t h2 (u := sl xs b (b + size)) (fun z => by have := sl_len (xs := xs) (i := b) (j := b + size) (by omega); rw [z] at this; simp at this; omega) (M_least _).1 (M_least (sl xs (b + size * t) e)).1
  rw [← blk_rep h, sl_app (by omega) he] at c
  rw [show ∀ a b : Nat, 2 + a + b = a + b + 2 by omega]
  exact c
theorem law_one {xs : List α} {b e : Nat} (h : b < e) (hx : e ≤ xs.length) : Cost (sl xs b e) (1 + M (sl xs (b + 1) e)) := by
  rw [sl_cons h hx, Nat.add_comm 1 (M _)]
  exact .one _ (M_least _).1
theorem law_least {xs : List α} {b e best : Nat} (h : b < e) (hx : e ≤ xs.length) (hc : Cost (sl xs b e) best) (h1 : best ≤ 1 + M (sl xs (b + 1) e))
    (h2 : ∀ size t, 1 ≤ size → size ≤ (e - b) / 2 → 2 ≤ t → b + size * t ≤ e → Blk xs b size t → best ≤ 2 + M (sl xs b (b + size)) + M (sl xs (b + size * t) e)) : best = M (sl xs b e) := by
  refine Nat.le_antisymm ?_ (M_le hc)
  have hl := sl_len (i := b) hx
  have cm := (M_least (sl xs b e)).1
  generalize hm : M (sl xs b e) = m at cm
  generalize hL : sl xs b e = L at cm
  cases cm with
  | nil => rw [hL] at hl; simp at hl; omega
  | one x ck =>
    rw [sl_cons h hx] at hL
    injection hL with _ e2
    have := M_le (by rw [← e2] at ck; exact ck)
    omega
  | grp t t2 hu c1 c2 =>
    rename_i u l m k
    have hlen := congrArg List.length hL
    rw [hl, List.length_append, rep_len] at hlen
    have hu0 : 0 < u.length := List.length_pos_iff.mpr hu
    have hmul : u.length * 2 ≤ u.length * t := Nat.mul_le_mul_left _ t2
    have et : u = sl xs b (b + u.length) := by
      rw [← sl_take (j := e) (by omega), hL, rep_take _ _ _ (by omega)]
    have er : l = sl xs (b + u.length * t) e := by rw [← sl_drop, hL, rep_rest]
    have bl : Blk xs b u.length t := fun k hk => by
      have : u.length * (k + 1) ≤ u.length * t := Nat.mul_le_mul_left _ hk
      rw [Nat.mul_succ] at this
      rw [← et, ← sl_take (j := e) (by omega), ← sl_drop, hL, rep_at _ _ hk]
    have := h2 u.length t hu0 ((Nat.le_div_iff_mul_le (by decide)).mpr (by omega)) t2 (by omega) bl
    rw [← et, ← er] at this
    have := M_le c1
    have := M_le c2
    omega
structure Sm (α : Type) where
  held : List (List α)
  times : List Nat
  count : Nat
section
variable [DecidableEq α] (cls : α) (tms : α → Option (Option Nat)) (fits : α → Bool) (most : Nat)
noncomputable def step (s : Sm α) (w : α) : Option (Sm α) :=
  if w = cls then
    match s.held, s.times with
    | u :: v :: st, t :: ts => if u ≠ [] ∧ s.count + u.length * (t - 1) ≤ most then some ⟨(v ++ rep u t) :: st, ts, s.count + u.length * (t - 1)⟩ else none
    | _, _ => none
  else match tms w with
    | some (some t) => if s.count ≤ most then some ⟨[] :: s.held, t :: s.times, s.count⟩ else none
    | some none => none
    | none => match s.held with
      | h :: st => if fits w = true ∧ s.count + 1 ≤ most then some ⟨(h ++ [w]) :: st, s.times, s.count + 1⟩ else none
      | [] => none
noncomputable def run : Sm α → List α → Option (Sm α)
  | s, [] => some s
  | s, w :: ws => match step cls tms fits most s w with
    | some s' => run s' ws
    | none => none
end
theorem run_app [DecidableEq α] {cls : α} {tms : α → Option (Option Nat)} {fits : α → Bool} {most : Nat} : ∀ (ws ws' : List α) (s : Sm α), run cls tms fits most s (ws ++ ws') = match run cls tms fits most s ws with | some s' => run cls tms fits most s' ws' | none => none
  | [], ws', s => rfl
  | w :: ws, ws', s => by
    have e : ∀ vs, run cls tms fits most s (w :: vs) = match step cls tms fits most s w with | some s' => run cls tms fits most s' vs | none => none := fun _ => rfl
    rw [List.cons_append, e, e]
    cases step cls tms fits most s w with
    | none => rfl
    | some s' => exact run_app ws ws' s'
theorem run_spr [DecidableEq α] {opn : Nat → α} {cls : α} {plain : α → Prop} {tms : α → Option (Option Nat)} {fits : α → Bool} {most : Nat} (hp : ∀ x, plain x → x ≠ cls ∧ tms x = none ∧ fits x = true) (ho : ∀ t, 2 ≤ t → t ≤ 60 → opn t ≠ cls ∧ tms (opn t) = some (some t))
    {ws l : List α} (h : Spr opn cls plain ws l) : ∀ (a : List α) (st : List (List α)) (ts : List Nat) (c : Nat), c + l.length ≤ most → run cls tms fits most ⟨a :: st, ts, c⟩ ws = some ⟨(a ++ l) :: st, ts, c + l.length⟩ := by
  induction h with
  | nil => intro a st ts c _; rw [List.append_nil]; rfl
  | one x px _ ih =>
    intro a st ts c hc
    rename_i ws l _
    obtain ⟨h1, h2, h3⟩ := hp x px
    rw [List.length_cons] at hc
    have e : step cls tms fits most ⟨a :: st, ts, c⟩ x = some ⟨(a ++ [x]) :: st, ts, c + 1⟩ := by
      unfold step
      rw [if_neg h1, h2]
      exact if_pos ⟨h3, by show c + 1 ≤ most; omega⟩
    rw [run, e]
    show run cls tms fits most _ ws = _
    rw [ih _ _ _ _ (by omega), List.append_assoc, List.length_cons]
    show some (Sm.mk _ _ _) = some (Sm.mk _ _ _)
    rw [show c + 1 + l.length = c + (l.length + 1) by omega]
    rfl
  | grp t t2 t60 hu _ _ ih1 ih2 =>
    intro a st ts c hc
    rename_i us u ws l _ _
    obtain ⟨h1, h2⟩ := ho t t2 t60
    rw [List.length_append, rep_len] at hc
    have hmul : u.length * t = u.length + u.length * (t - 1) := by
      obtain ⟨s, rfl⟩ : ∃ s, t = s + 1 := ⟨t - 1, by omega⟩
      rw [Nat.add_sub_cancel, Nat.mul_succ, Nat.add_comm]
    have e : step cls tms fits most ⟨a :: st, ts, c⟩ (opn t) = some ⟨[] :: a :: st, t :: ts, c⟩ := by
      unfold step
      rw [if_neg h1, h2]
      exact if_pos (by show c ≤ most; omega)
    rw [run, e]
    show run cls tms fits most _ (us ++ cls :: ws) = _
    rw [run_app, ih1 _ _ _ _ (by omega)]
    show run cls tms fits most _ (cls :: ws) = _
    have e2 : step cls tms fits most ⟨([] ++ u) :: a :: st, t :: ts, c + u.length⟩ cls = some ⟨(a ++ rep u t) :: st, ts, c + u.length + u.length * (t - 1)⟩ := by
      unfold step
      rw [if_pos rfl]
      show (if ([] ++ u) ≠ [] ∧ c + u.length + ([] ++ u).length * (t - 1) ≤ most then _ else _) = _
      rw [List.nil_append, if_pos ⟨hu, by omega⟩]
    rw [run, e2]
    show run cls tms fits most _ ws = _
    rw [ih2 _ _ _ _ (by omega), List.append_assoc, List.length_append, rep_len]
    show some (Sm.mk _ _ _) = some (Sm.mk _ _ _)
    rw [show c + u.length + u.length * (t - 1) + l.length = c + (u.length * t + l.length) by omega]
end
end MFew
open L2
local macro_rules | `(tactic| walk_at "t") => `(tactic| first | (with_reducible first | refine rd_seq ?_ | refine rd_asg ?_ | refine rd_name ?_ | refine rd_c ?_ | refine rd_op ?_ | refine rd_un ?_ | refine rd_rI0 ?_ | refine rd_rU ?_ | refine rd_eqI ?_ | refine rd_neI ?_ | refine rd_eqS ?_ | refine rd_not ?_ | refine rd_test ?_ | refine rd_tB ?_ | refine rd_bl ?_ | refine rd_or ?_ | refine rd_and ?_ | refine rd_andV ?_ | refine rd_notV ?_ | refine rd_ret ?_ | refine rd_drop ?_ | refine rd_nil ?_ | refine rd_cons ?_ | refine rd_lst ?_ | refine rd_tup ?_ | refine rd_cb ?_ | refine rd_call ?_ | refine rd_sl ?_ | refine rd_part ?_ | refine rd_noPart ?_ | refine rd_int ?_ | refine iteT ?_ | refine iteF ?_ | refine rd_next ?_ | refine rd_pnil ?_ | refine rd_pcons ?_ | refine rd_dget ?_ | refine rd_dput ?_ | refine rd_bm0 ?_ | refine rd_bm ?_ | refine iteNF ?_ | refine rd_comp ?_ | refine rd_for ?_ | refine rd_iS ?_ | refine rd_iE ?_ | refine rd_iF ?_ | refine rd_i1 ?_ | refine rd_i2 ?_ | refine rd_i3 ?_ | refine rd_min2 ?_ | refine rd_dispT ?_ | refine rd_chain ?_) | ((with_reducible apply rd_var); exact rfl) | (with_reducible refine rd_len (by simp only [List.length_cons, List.length_nil]; decide) ?_))
local macro_rules | `(tactic| walk_at "s") => `(tactic| first | walk_at "t" | (with_reducible refine rd_ifS ?_))
local macro_rules | `(tactic| walk_at "v") => `(tactic| repeat walk_at "t")
local macro_rules | `(tactic| walk_at "w") => `(tactic| repeat walk_at "s")
namespace K03
open PySem L2 PySem.Spec PyProof.Rows
seal L2.PE L2.PT L2.PW L2.PA L2.PS L2.PSs L2.PI L2.PG L2.PTs L2.PGs
section
variable {P : Program} {w : World} {K : PySem.W.Frag} {mg : Str → Option Value} {base : Heap}
noncomputable def top (i : Nat) : Stmt := PySem.Challenge.pw_loomwright_k03_whole_fewest_words.main.body.getD i (.Pass ⟨0, 0, 0, 0⟩)
structure Cs where
  nothing : Unit
structure Txt (K : PySem.W.Frag) (mg : Str → Option Value) (c : Cs) : Prop where
  own : Own mg ["isinstance", "int", "bool", "str", "list", "len", "all", "range", "sum", "enumerate", "min"]
  k_FIGURES : ∃ t, mg "FIGURES" = some (.str "0123456789" t)
  k_MOST_FIGURES : ∃ t, mg "MOST_FIGURES" = some (.int 3 t)
  k_LEAST_TIMES : ∃ t, mg "LEAST_TIMES" = some (.int 2 t)
  k_MOST_TIMES : ∃ t, mg "MOST_TIMES" = some (.int 60 t)
  k_OPENING : ∃ t, mg "OPENING" = some (.str "(" t)
  k_CLOSING : ∃ t, mg "CLOSING" = some (.str ")" t)
noncomputable def spLawL (K : PySem.W.Frag) (TT : Addr) : Sp := fun vs H Q _ => ∃ (a : Addr) (ns : List Int), vs = [.ref a] ∧ SqL K H a (ns.map V.int) ∧ ns.length ≤ 63 ∧ H TT = some (.tbl #[]) ∧ ∀ H', Q (.bl true) H'
end
end K03
open L2
namespace K03
open PySem L2 PySem.Spec PyProof.Rows
seal L2.PE L2.PT L2.PW L2.PA L2.PS L2.PSs L2.PI L2.PG L2.PTs L2.PGs
section
variable {P : Program} {w : World} {K : PySem.W.Frag} {mg : Str → Option Value} {base : Heap} {c : Cs}
noncomputable def sp_is_whole (K : PySem.W.Frag) : Sp := fun vs H Q _ => ∃ x, vs = [x] ∧ Ty K H x ∧ Q (.bl (isIntV x)) H
noncomputable abbrev s_is_whole : Stmt := top 6
theorem sc_is_whole : FnScope ["thing"] ["thing"] (defScope s_is_whole) := ⟨rfl, rfl, rfl, by decide +kernel, rfl, by decide +kernel, by decide +kernel⟩
theorem ok_is_whole {f : Addr} {fd : FuncData} (F : Fun K "is_whole" "is_whole" s_is_whole f fd) (T : Txt K mg c) : FnOk P w K mg base CX0 1 f fd ["thing"] (sp_is_whole K) := by
  refine F.ok sc_is_whole (fun vs H Q E h => ?_) (fun cdv A outer s H vs Q E hr h => ?_)
  · obtain ⟨x, rfl, _⟩ := h
    rfl
  · obtain ⟨x, rfl, ⟨n, ty⟩, k⟩ := h
    refine ⟨_, (pss_one (ps_ret (pe_and (pe_callB (k_isin (K := K)) rfl (T.own _ (by decide)) boot_isinstance (pa_cons (pv 0) (pa_cons (pe_ty rfl (T.own _ (by decide)) boot_int) pa_nil))) (pe_one (pe_not (pe_callB (k_isin (K := K)) rfl (T.own _ (by decide)) boot_isinstance (pa_cons (pv 0) (pa_cons (pe_ty rfl (T.own _ (by decide)) boot_bool) pa_nil)))))))), ?_⟩
    walk_at "w"
    refine rd_isin ty (kit_int ty) ?_
    walk_at "w"
    refine iteC (fun hc => ?_) (fun hc => ?_)
    · walk_at "w"
      refine rd_isin ty (kit_bool ty) ?_
      walk_at "w"
      exact fin_b (by cases x <;> first | rfl | exact absurd hc Bool.false_ne_true) k
    · exact fin_b (by cases x <;> first | rfl | exact absurd hc.symm Bool.false_ne_true) k
noncomputable def sp_is_among (K : PySem.W.Frag) : Sp := fun vs H Q _ => ∃ x a b, vs = [x, .int a, .int b] ∧ Ty K H x ∧ Q (.bl (amongV x a b)) H
noncomputable abbrev s_is_among : Stmt := top 7
theorem sc_is_among : FnScope ["thing", "least", "most"] ["thing", "least", "most"] (defScope s_is_among) := ⟨rfl, rfl, rfl, by decide +kernel, rfl, by decide +kernel, by decide +kernel⟩
theorem ok_is_among {f : Addr} {fd : FuncData} (F : Fun K "is_among" "is_among" s_is_among f fd) (T : Txt K mg c) (c_is_whole : CallF P w K mg base "is_whole" 1 ["thing"] (sp_is_whole K)) : FnOk P w K mg base CX0 2 f fd ["thing", "least", "most"] (sp_is_among K) := by
  refine F.ok sc_is_among (fun vs H Q E h => ?_) (fun cdv A outer s H vs Q E hr h => ?_)
  · obtain ⟨x, a, b, rfl, _⟩ := h
    rfl
  · obtain ⟨x, a, b, rfl, ty, k⟩ := h
    refine ⟨_, (pss_one (ps_ret (pe_and (pe_callF c_is_whole hr (pa_cons (pv 0) pa_nil)) (pe_one (pe_chain op_le op_le (pv 1) (pv 0) (pv 2)))))), ?_⟩
    walk_at "w"
    refine ⟨x, rfl, ty, ?_⟩
    walk_at "w"
    refine iteC (fun hc => ?_) (fun hc => ?_)
    · cases x with
      | int i =>
        walk_at "w"
        refine iteC (fun h1 => ?_) (fun h1 => ?_)
        · walk_at "w"
          exact fin_b (by show _ = (decide (a ≤ i) && decide (i ≤ b)); rw [h1, Bool.true_and]) k
        · walk_at "w"
          exact fin_b (by show _ = (decide (a ≤ i) && decide (i ≤ b)); rw [h1, Bool.false_and]) k
      | _ => exact absurd hc Bool.false_ne_true
    · exact fin_b (by cases x <;> first | rfl | exact absurd hc.symm Bool.false_ne_true) k
end
end K03
open L2
namespace K03
open PySem L2 PySem.Spec PyProof.Rows
seal L2.PE L2.PT L2.PW L2.PA L2.PS L2.PSs L2.PI L2.PG L2.PTs L2.PGs
section
variable {P : Program} {w : World} {K : PySem.W.Frag} {mg : Str → Option Value} {base : Heap} {c : Cs}
theorem str_ext {a b : Str} (h : a.cps = b.cps) : a = b := by cases a; cases b; cases h; rfl
theorem cat_cps (a b : Str) : (a ++ b).cps = a.cps ++ b.cps := rfl
theorem strs_comp {J : It} {g : TG} {σ0 : L2.St} {H : Hp} {n : Nat} {st : Nat → L2.St} {te : TE} {Q : VK} {D : Addr} {G : Nat → Str} (S : SrcOk J g σ0 H n st) (hD : H D = none) (hn : n ≤ 100000)
    (he : ∀ i H' (R : VK), i < n → Same H H' → (∀ H3, Same H' H3 → R (.str (G i)) H3) → te (st i) H' R)
    (hd : ∀ H', Same H H' → H' D = some (.lst (((List.range n).map G).map V.str)) → Q (.ref D) H') : CompW J σ0 g tYes te Q H D := by
  refine comp_map (m := 0) (G := fun i => .str (G i)) S hD hn (fun i H' R hi s k => he i H' R hi s fun H3 s3 => k H3 _ s3 (.str _)) fun H' ys s hl r => ?_
  rw [dS_map] at r
  obtain ⟨b, eb, hb, fb, _⟩ := dS_of r
  cases eb
  exact hd H' s hb
end
end K03
open L2
namespace K03
open PySem L2 PySem.Spec PyProof.Rows
seal L2.PE L2.PT L2.PW L2.PA L2.PS L2.PSs L2.PI L2.PG L2.PTs L2.PGs
section
variable {P : Program} {w : World} {K : PySem.W.Frag} {mg : Str → Option Value} {base : Heap} {c : Cs}
noncomputable def numV (z : Str) : V := match MN.numOf z.cps.toList with
  | some n => V.int n
  | none => V.non
theorem all_map {α : Type} (p : α → Bool) (l : List α) : (l.map p).all id = l.all p := by simp [List.all_map]
theorem map_at {l : List Nat} {p : Nat → Bool} : ((List.range l.length).map fun i => p (l.getD i 0)) = l.map p := by
  refine List.ext_getElem (by simp) fun i g1 g2 => ?_
  rw [List.getElem_map, List.getElem_map, List.getElem_range, List.getD_eq_getElem?_getD, List.getElem?_eq_getElem (by simpa using g2)]
  rfl
theorem starts0 (z : Str) : Txt.startswith z (Str.ofString "0") = (z.cps.toList.head? == some 48) := by
  have e : (Str.ofString "0") = ⟨#[48]⟩ := by decide +kernel
  rw [e]
  unfold Txt.startswith
  rw [MS.subAt_one]
  have hl : z.cps.toList.length = z.length := by simp [Str.length]
  have h0 : z.cps.toList[0]? = z.cps.toList.head? := by rw [List.head?_eq_getElem?]
  rw [h0, Bool.eq_iff_iff, Bool.and_eq_true, decide_eq_true_iff, decide_eq_true_iff, beq_iff_eq]
  constructor
  · exact fun h => h.2
  · intro h
    refine ⟨?_, h⟩
    show 0 + 1 ≤ z.length
    have : z.cps.toList ≠ [] := by intro q; rw [q] at h; cases h
    have := List.length_pos_iff.mpr this
    omega
theorem numV_none {z : Str} (h : MN.numOf z.cps.toList = none) : numV z = .non := by unfold numV; rw [h]
theorem numV_some {z : Str} {n : Nat} (h : MN.numOf z.cps.toList = some n) : numV z = .int n := by unfold numV; rw [h]
noncomputable def sp_number_of : Sp := fun vs H Q _ => ∃ z : Str, vs = [.str z] ∧ z.length ≤ 100 ∧ ∀ H', Same H H' → Q (numV z) H'
noncomputable abbrev s_number_of : Stmt := top 8
theorem sc_number_of : FnScope ["word"] ["word"] (defScope s_number_of) := ⟨rfl, rfl, rfl, by decide +kernel, rfl, by decide +kernel, by decide +kernel⟩
theorem ok_number_of {f : Addr} {fd : FuncData} (F : Fun K "number_of" "number_of" s_number_of f fd) (T : Txt K mg c) (c_is_among : CallF P w K mg base "is_among" 2 ["thing", "least", "most"] (sp_is_among K)) : FnOk P w K mg base CX0 3 f fd ["word"] sp_number_of := by
  refine F.ok sc_number_of (fun vs H Q E h => ?_) (fun cdv A outer s H vs Q E hr h => ?_)
  · obtain ⟨z, rfl, _⟩ := h
    rfl
  · obtain ⟨z, rfl, hz, k⟩ := h
    have hzl : z.cps.toList.length = z.length := by simp [Str.length]
    refine ⟨_, (pss_cons (ps_if (PW.pt (pw_or (pt_not (pt_val (pe_callB (k_isin (K := K)) rfl (T.own _ (by decide)) boot_isinstance (pa_cons (pv 0) (pa_cons (pe_ty rfl (T.own _ (by decide)) boot_str) pa_nil))))) (pw_or1 (pt_not (pt_val (pe_callF c_is_among hr (pa_cons (pe_callB (k_len (K := K)) rfl (T.own _ (by decide)) boot_len (pa_cons (pv 0) pa_nil)) (pa_cons pe_int (pa_cons (pe_gI T.k_MOST_FIGURES) pa_nil))))))))) (pss_one (ps_ret pe_non)) pss_nil)
      (pss_cons (ps_if (pt_not (pt_val (pe_callB (k_all (K := K)) rfl (T.own _ (by decide)) boot_all' (pa_cons (pe_comp1 (pi_str (pv 0)) (fun _ _ _ _ => pts_nil) (fun _ _ _ _ => (pe_cmpR op_in_str (pv 0) (pe_gS T.k_FIGURES) (by with_unfolding_all rfl)))) pa_nil)))) (pss_one (ps_ret pe_non)) pss_nil)
      (pss_cons (ps_if (PW.pt (pw_and (pt_cmpR op_gt (pe_callB (k_len (K := K)) rfl (T.own _ (by decide)) boot_len (pa_cons (pv 0) pa_nil)) pe_int (nomark _)) (pw_and1 (pt_val (kx_bm (K := K) PySem.F.plainAttrs_str PySem.F.slot_str_startswith PySem.F.type_str_startswith mt_startswith (pv 0) (pa_cons pe_str pa_nil)))))) (pss_one (ps_ret pe_non)) pss_nil)
      (pss_one (ps_ret (pe_callTy call_int_text rfl (T.own _ (by decide)) boot_int (pa_cons (pv 0) pa_nil))))))), ?_⟩
    have yes : ∀ H', Same H H' → MN.numOf z.cps.toList = none → Q .non H' := fun H' sm' e => numV_none e ▸ k H' sm'
    walk_at "w"
    refine rd_isin (.str _) (kb (b := true) (by decide +kernel)) ?_
    walk_at "w"
    refine rd_lenS (Nat.le_trans hz (by decide)) ?_
    walk_at "w"
    refine ⟨_, _, _, rfl, ⟨"int", .int _⟩, ?_⟩
    have eA : amongV (.int (z.length : Nat)) 1 3 = (decide ((1 : Int) ≤ (z.length : Nat)) && decide (((z.length : Nat) : Int) ≤ 3)) := rfl
    rw [eA]
    walk_at "w"
    refine iteB (fun h1 => ?_) (fun h1 => ?_)
    · walk_at "w"
      refine yes H (Same.refl H) ?_
      unfold MN.numOf
      rw [if_neg]
      intro q
      simp only [Bool.and_eq_true, decide_eq_true_iff] at q
      have q1 := q.1.1
      rw [hzl] at q1
      rw [decide_eq_true (by omega : (1 : Int) ≤ (z.length : Nat)), decide_eq_true (by omega : ((z.length : Nat) : Int) ≤ 3)] at h1
      cases h1
    have h2 : 1 ≤ z.length ∧ z.length ≤ 3 := by
      simp only [Bool.not_eq_false', Bool.and_eq_true, decide_eq_true_iff] at h1
      omega
    walk_at "w"
    refine ⟨z, rfl, fun D hD => ?_⟩
    refine bls_comp (G := fun i => MN.isDig (z.cps.toList.getD i 0)) (src_str rfl) hD (by show z.length ≤ 100000; omega) ?_ ?_
    · intro i H' R hi s kk
      walk_at "w"
      refine ⟨_, _, rfl, rfl, ?_⟩
      rw [MN.in_one, MN.fig_mem]
      exact kk H' (Same.refl _)
    intro H1 s1 hd1
    walk_at "w"
    refine rd_all (SqL.of hd1) ?_
    have eall : ((List.range z.cps.size).map fun i => MN.isDig (z.cps.toList.getD i 0)).all id = z.cps.toList.all MN.isDig := by
      rw [show z.cps.size = z.cps.toList.length by simp, map_at, all_map]
    rw [eall]
    walk_at "w"
    refine iteB (fun h3 => ?_) (fun h3 => ?_)
    · walk_at "w"
      refine yes H1 s1 ?_
      unfold MN.numOf
      rw [if_neg]
      intro q
      simp only [Bool.and_eq_true] at q
      rw [q.1.2] at h3
      cases h3
    have h4 : z.cps.toList.all MN.isDig = true := by simpa using h3
    walk_at "w"
    refine rd_lenS (Nat.le_trans hz (by decide)) ?_
    walk_at "w"
    have fin : (decide (1 < z.cps.toList.length) && (z.cps.toList.head? == some 48)) = false → PySem.intText? z = some ((NumText.digitsVal z.cps.toList : Nat) : Int) ∧ Q (.int ((NumText.digitsVal z.cps.toList : Nat) : Int)) H1 := fun q => by
      refine ⟨intText_digits ?_ ?_ (by omega), ?_⟩
      · intro c hc
        have := (List.all_eq_true.mp h4) c hc
        unfold MN.isDig at this
        rw [Bool.and_eq_true, decide_eq_true_iff, decide_eq_true_iff] at this
        exact this
      · intro q
        rw [q] at hzl
        simp at hzl
        omega
      · have e : MN.numOf z.cps.toList = some (NumText.digitsVal z.cps.toList) := by
          unfold MN.numOf
          rw [if_pos]
          rw [q, h4, decide_eq_true (by omega : 1 ≤ z.cps.toList.length), decide_eq_true (by omega : z.cps.toList.length ≤ 3)]
          rfl
        exact numV_some e ▸ k H1 s1
    refine iteP (fun h5 => ?_) (fun h5 => ?_)
    · walk_at "w"
      refine ⟨rfl, ?_⟩
      walk_at "w"
      refine ⟨_, _, rfl, rfl, ?_⟩
      rw [starts0]
      walk_at "w"
      refine iteB (fun h6 => ?_) (fun h6 => ?_)
      · walk_at "w"
        refine yes H1 s1 ?_
        unfold MN.numOf
        rw [if_neg]
        intro q
        simp only [Bool.and_eq_true] at q
        have q2 := q.2
        rw [h6, decide_eq_true (by omega : 1 < z.cps.toList.length)] at q2
        cases q2
      · obtain ⟨g1, g2⟩ := fin (by rw [h6, Bool.and_false])
        walk_at "w"
        exact ⟨z, _, rfl, g1, by omega, g2⟩
    · obtain ⟨g1, g2⟩ := fin (by rw [decide_eq_false (by omega), Bool.false_and])
      walk_at "w"
      exact ⟨z, _, rfl, g1, by omega, g2⟩
noncomputable def sp_number_text : Sp := fun vs H Q _ => ∃ n : Nat, vs = [nV n] ∧ n ≤ 1000 ∧ Q (.str (toString ((n : Nat) : Int))) H
noncomputable abbrev s_number_text : Stmt := top 9
theorem sc_number_text : FnScope ["number"] ["number"] (defScope s_number_text) := ⟨rfl, rfl, rfl, by decide +kernel, rfl, by decide +kernel, by decide +kernel⟩
theorem ok_number_text {f : Addr} {fd : FuncData} (F : Fun K "number_text" "number_text" s_number_text f fd) (T : Txt K mg c) : FnOk P w K mg base CX0 1 f fd ["number"] sp_number_text := by
  refine F.ok sc_number_text (fun vs H Q E h => ?_) (fun cdv A outer s H vs Q E hr h => ?_)
  · obtain ⟨n, rfl, _⟩ := h
    rfl
  · obtain ⟨n, rfl, hn, k⟩ := h
    refine ⟨_, (pss_one (ps_ret (pe_callTy k_str rfl (T.own _ (by decide)) boot_str (pa_cons (pv 0) pa_nil)))), ?_⟩
    walk_at "w"
    refine ⟨_, rfl, ?_, k⟩
    have : Nat.log2 n ≤ n := Nat.log2_le_self n
    show Nat.log2 n < 1920
    omega
noncomputable abbrev opS : Str := "("
noncomputable abbrev clS : Str := ")"
noncomputable def timesV (z : Str) : V := if (Txt.endswith z opS && amongV (numV (Txt.slice z none (some (-1)))) 2 60) = true then numV (Txt.slice z none (some (-1))) else .non
noncomputable def sp_times_of : Sp := fun vs H Q _ => ∃ z : Str, vs = [.str z] ∧ z.length ≤ 100 ∧ ∀ H', Same H H' → Q (timesV z) H'
theorem numV_ty {K : PySem.W.Frag} {H : Hp} (z : Str) : Ty K H (numV z) := by
  unfold numV
  split
  · exact ⟨_, .int _⟩
  · exact ⟨_, .non⟩
noncomputable abbrev s_times_of : Stmt := top 15
theorem sc_times_of : FnScope ["word", "times"] ["word"] (defScope s_times_of) := ⟨rfl, rfl, rfl, by decide +kernel, rfl, by decide +kernel, by decide +kernel⟩
theorem ok_times_of {f : Addr} {fd : FuncData} (F : Fun K "times_of" "times_of" s_times_of f fd) (T : Txt K mg c) (c_number_of : CallF P w K mg base "number_of" 3 ["word"] sp_number_of) (c_is_among : CallF P w K mg base "is_among" 2 ["thing", "least", "most"] (sp_is_among K)) : FnOk P w K mg base CX0 4 f fd ["word"] sp_times_of := by
  refine F.ok sc_times_of (fun vs H Q E h => ?_) (fun cdv A outer s H vs Q E hr h => ?_)
  · obtain ⟨z, rfl, _⟩ := h
    rfl
  · obtain ⟨z, rfl, hz, k⟩ := h
    refine ⟨_, (pss_cons (ps_set (i := 1) sc_times_of.nd rfl (Or.inl rfl) (pe_callF c_number_of hr (pa_cons (pe_slice sl_str (pv 0) po_none (po_some (pe_un un_neg pe_int))) pa_nil)))
      (pss_cons (ps_if (PW.pt (pw_and (pt_val (kx_bm (K := K) PySem.F.plainAttrs_str PySem.F.slot_str_endswith PySem.F.type_str_endswith mt_endswith (pv 0) (pa_cons (pe_gS T.k_OPENING) pa_nil))) (pw_and1 (pt_val (pe_callF c_is_among (hr.mono (by decide)) (pa_cons (pv 1) (pa_cons (pe_gI T.k_LEAST_TIMES) (pa_cons (pe_gI T.k_MOST_TIMES) pa_nil)))))))) (pss_one (ps_ret (pv 1))) pss_nil)
      (pss_one (ps_ret pe_non)))), ?_⟩
    walk_at "w"
    refine rd_slS (Nat.le_trans hz (by decide)) ?_
    walk_at "w"
    refine ⟨_, rfl, Nat.le_trans (Txt.slice_le z _ _) hz, fun H1 s1 => ?_⟩
    walk_at "w"
    refine ⟨rfl, ?_⟩
    walk_at "w"
    refine ⟨_, _, rfl, rfl, ?_⟩
    walk_at "w"
    refine iteB (fun h1 => ?_) (fun h1 => ?_)
    · walk_at "w"
      refine ⟨_, _, _, rfl, numV_ty _, ?_⟩
      walk_at "w"
      refine iteB (fun h2 => ?_) (fun h2 => ?_)
      · have e : timesV z = numV (Txt.slice z none (some (-1))) := if_pos (by rw [show Txt.endswith z opS = true from h1, h2]; rfl)
        walk_at "w"
        exact e ▸ k H1 s1
      · have e : timesV z = .non := if_neg (by rw [h2, Bool.and_false]; decide)
        walk_at "w"
        exact e ▸ k H1 s1
    · have e : timesV z = .non := if_neg (by rw [show Txt.endswith z opS = false from h1, Bool.false_and]; decide)
      walk_at "w"
      exact e ▸ k H1 s1
end
end K03
open L2
namespace K03
open PySem L2 PySem.Spec PyProof.Rows
seal L2.PE L2.PT L2.PW L2.PA L2.PS L2.PSs L2.PI L2.PG L2.PTs L2.PGs
section
variable {P : Program} {w : World} {K : PySem.W.Frag} {mg : Str → Option Value} {base : Heap} {c : Cs}
noncomputable def tms (z : Str) : Option (Option Nat) := if Txt.endswith z opS = true then some (match timesV z with | .int t => some t.toNat | _ => none) else none
theorem atI_snoc {xs : List V} {y : V} : atI (xs ++ [y]) (-1) = some y := by
  unfold atI ixN
  rw [List.length_append, List.length_singleton]
  simp only [show ¬ ((0 : Int) ≤ -1) by decide, if_false]
  rw [if_pos (by omega)]
  simp only [Option.bind_some]
  rw [show ((-1 : Int) + ((xs.length + 1 : Nat) : Int)).toNat = xs.length by omega]
  simp
noncomputable def standB (z : Str) (n m : Nat) (fit : Bool) : Bool := if z = clS then decide (0 < n) && decide (0 < m) else if Txt.endswith z opS = true then !decide (timesV z = .non) else fit
noncomputable def sp_can_stand (fl : Addr) (sL : Sp) : Sp := fun vs H Q _ => ∃ (z : Str) (h t a : Addr) (as : List V) (u : List Str) (ts : List V) (fit : Bool), vs = [.str z, .ref h, .ref t, .ref fl] ∧ z.length ≤ 100 ∧ H h = some (.lst (as ++ [.ref a])) ∧ H a = some (.lst (u.map V.str)) ∧ H t = some (.lst ts) ∧
  (z ≠ clS → Txt.endswith z opS = false → ∀ Q' : VK, Q' (.bl fit) H → sL [.str z] H Q' E0) ∧ ∀ H', Same H H' → Q (.bl (standB z ts.length u.length fit)) H'
noncomputable abbrev s_can_stand : Stmt := top 16
theorem sc_can_stand : FnScope ["word", "held", "times", "fits"] ["word", "held", "times", "fits"] (defScope s_can_stand) := ⟨rfl, rfl, rfl, by decide +kernel, rfl, by decide +kernel, by decide +kernel⟩
theorem ok_can_stand {f : Addr} {fd : FuncData} {fl : Addr} {sL : Sp} (lv : LamV P w K mg base 1 fl sL) (F : Fun K "can_stand" "can_stand" s_can_stand f fd) (T : Txt K mg c) (c_times_of : CallF P w K mg base "times_of" 4 ["word"] sp_times_of) : FnOk P w K mg base CX0 5 f fd ["word", "held", "times", "fits"] (sp_can_stand fl sL) := by
  refine F.ok sc_can_stand (fun vs H Q E h => ?_) (fun cdv A outer s H vs Q E hr h => ?_)
  · obtain ⟨z, h, t, a, as, u, ts, fit, rfl, _⟩ := h
    rfl
  · obtain ⟨z, h, t, a, as, u, ts, fit, rfl, hz, hh, ha, ht, hf, k⟩ := h
    refine ⟨_, (pss_cons (ps_if (pt_cmpR op_eq (pv 0) (pe_gS T.k_CLOSING) (nomark _)) (pss_one (ps_ret (pe_and (pe_cmpR op_gt (pe_callB (k_len (K := K)) rfl (T.own _ (by decide)) boot_len (pa_cons (pv 2) pa_nil)) pe_int (nomark _)) (pe_one (pe_cmpR op_gt (pe_callB (k_len (K := K)) rfl (T.own _ (by decide)) boot_len (pa_cons (pe_ix (k_ixl (K := K)) (pv 1) (pe_un un_neg pe_int) (fun _ _ => rfl)) pa_nil)) pe_int (nomark _)))))) pss_nil)
      (pss_cons (ps_if (pt_val (kx_bm (K := K) PySem.F.plainAttrs_str PySem.F.slot_str_endswith PySem.F.type_str_endswith mt_endswith (pv 0) (pa_cons (pe_gS T.k_OPENING) pa_nil))) (pss_one (ps_ret (pe_cmpR op_notN (pe_callF c_times_of hr (pa_cons (pv 0) pa_nil)) pe_non (nomark _)))) pss_nil)
      (pss_one (ps_ret (pe_callL lv (hr.mono (by decide)) (pv 3) (pa_cons (pv 0) pa_nil)))))), ?_⟩
    walk_at "w"
    refine iteP (fun h1 => ?_) (fun h1 => ?_)
    · have e : standB z ts.length u.length fit = (decide (0 < ts.length) && decide (0 < u.length)) := if_pos h1
      rw [e] at k
      walk_at "w"
      refine rd_lenL (SqL.of ht) ?_
      walk_at "w"
      refine iteP (fun h2 => ?_) (fun h2 => ?_)
      · walk_at "w"
        refine rd_ixL (SqL.of hh) atI_snoc ?_
        walk_at "w"
        refine rd_lenL (SqL.of ha) ?_
        walk_at "w"
        rw [List.length_map]
        have e2 : decide ((0 : Int) < ((u.length : Nat) : Int)) = (decide (0 < ts.length) && decide (0 < u.length)) := by
          rw [decide_eq_true (by omega : 0 < ts.length), Bool.true_and]
          exact decide_eq_decide.mpr (by omega)
        rw [e2]
        exact k H (Same.refl _)
      · have e2 : (decide (0 < ts.length) && decide (0 < u.length)) = false := by rw [decide_eq_false (by omega), Bool.false_and]
        rw [e2] at k
        exact k H (Same.refl _)
    walk_at "w"
    refine ⟨rfl, ?_⟩
    walk_at "w"
    refine ⟨_, _, rfl, rfl, ?_⟩
    walk_at "w"
    refine iteB (fun h2 => ?_) (fun h2 => ?_)
    · have e : standB z ts.length u.length fit = !decide (timesV z = .non) := (if_neg h1).trans (if_pos h2)
      rw [e] at k
      walk_at "w"
      refine ⟨z, rfl, hz, fun H1 s1 => ?_⟩
      walk_at "w"
      exact ⟨rfl, k H1 s1⟩
    · have e : standB z ts.length u.length fit = fit := (if_neg h1).trans (if_neg (by rw [show Txt.endswith z opS = false from h2]; decide))
      rw [e] at k
      walk_at "w"
      refine rd_callL ?_
      walk_at "w"
      refine ⟨rfl, ?_⟩
      walk_at "w"
      exact ⟨_, rfl, hf h1 h2 _ (k H (Same.refl _))⟩
noncomputable def AtL (H : Hp) : List Addr → List (List Str) → Prop
  | [], [] => True
  | a :: as, u :: us => H a = some (.lst (u.map V.str)) ∧ AtL H as us
  | _, _ => False
theorem AtL.len {H : Hp} : ∀ {as : List Addr} {us : List (List Str)}, AtL H as us → as.length = us.length
  | [], [], _ => rfl
  | _ :: _, _ :: _, h => by rw [List.length_cons, List.length_cons, AtL.len h.2]
theorem AtL.on {H H' : Hp} : ∀ {as : List Addr} {us : List (List Str)}, AtL H as us → (∀ a ∈ as, ∀ o, H a = some o → H' a = some o) → AtL H' as us
  | [], [], _, _ => trivial
  | a :: _, _ :: _, h, k => ⟨k a List.mem_cons_self _ h.1, AtL.on h.2 fun b hb => k b (List.mem_cons_of_mem _ hb)⟩
structure Stk (H : Hp) (h t : Addr) (as : List Addr) (s : MFew.Sm Str) : Prop where
  hh : H h = some (.lst (as.reverse.map V.ref))
  ht : H t = some (.lst (s.times.reverse.map nV))
  hs : AtL H as s.held
  nd : as.Nodup
  nh : h ∉ as
  nt : t ∉ as
  ne : h ≠ t
  tm : ∀ n ∈ s.times, 2 ≤ n ∧ n ≤ 60
  sm : (s.held.map List.length).sum = s.count
  dp : s.held.length = s.times.length + 1
  up : s.held.length ≤ 1000
  ct : s.count ≤ 60
noncomputable def sp_taken : Sp := fun vs H Q _ => ∃ (z : Str) (h t : Addr) (as : List Addr) (s s' : MFew.Sm Str) (fits : Str → Bool), vs = [.str z, .ref h, .ref t] ∧ z.length ≤ 100 ∧ Stk H h t as s ∧ s.held.length ≤ 900 ∧ MFew.step clS tms fits 60 s z = some s' ∧
  ∀ H' as', (∀ b o, b ≠ h → b ≠ t → b ∉ as → H b = some o → H' b = some o) → (∀ a ∈ as', a ∈ as ∨ H a = none) → Stk H' h t as' s' → Q (.int ((s'.count : Int) - (s.count : Int))) H'
theorem atI_get {xs : List V} {y : V} (h : xs[xs.length - 1]? = some y) : atI xs (-1) = some y := by
  have hp : 0 < xs.length := by
    rcases Nat.eq_zero_or_pos xs.length with z | z
    · rw [List.length_eq_zero_iff.mp z] at h; cases h
    · exact z
  unfold atI ixN
  simp only [show ¬ ((0 : Int) ≤ -1) by decide, if_false]
  rw [if_pos (by omega)]
  simp only [Option.bind_some]
  rw [show ((-1 : Int) + ((xs.length : Nat) : Int)).toNat = xs.length - 1 by omega]
  exact h
theorem timesV_cases (z : Str) : timesV z = .non ∨ ∃ n : Nat, timesV z = nV n ∧ 2 ≤ n ∧ n ≤ 60 := by
  unfold timesV
  split
  · rename_i h
    rw [Bool.and_eq_true] at h
    have h := h.2
    unfold numV at h ⊢
    split
    · rename_i n e
      rw [e] at h
      refine .inr ⟨n, rfl, ?_⟩
      have h : (decide ((2 : Int) ≤ (n : Nat)) && decide (((n : Nat) : Int) ≤ 60)) = true := h
      rw [Bool.and_eq_true, decide_eq_true_iff, decide_eq_true_iff] at h
      omega
    · exact .inl rfl
  · exact .inl rfl
theorem rep_len2 {u : List Str} {n : Nat} : (List.replicate n (u.map V.str)).flatten = (MFew.rep u n).map V.str := by
  rw [← MFew.rep_flat, List.map_flatten, List.map_replicate]
noncomputable abbrev s_taken : Stmt := top 17
theorem sc_taken : FnScope ["word", "held", "times", "inner", "many"] ["word", "held", "times"] (defScope s_taken) := ⟨rfl, rfl, rfl, by decide +kernel, rfl, by decide +kernel, by decide +kernel⟩
theorem ok_taken {f : Addr} {fd : FuncData} (F : Fun K "taken" "taken" s_taken f fd) (T : Txt K mg c) (c_times_of : CallF P w K mg base "times_of" 4 ["word"] sp_times_of) : FnOk P w K mg base CX0 5 f fd ["word", "held", "times"] sp_taken := by
  refine F.ok sc_taken (fun vs H Q E h => ?_) (fun cdv A outer s H vs Q E hr h => ?_)
  · obtain ⟨z, h, t, as, s, s', fits, rfl, _⟩ := h
    rfl
  · obtain ⟨z, h, t, as, s0, s', fits, rfl, hz, K0, h900, hst, k⟩ := h
    have hu := hr.units0
    refine ⟨_, (pss_cons (ps_if (pt_cmpR op_eq (pv 0) (pe_gS T.k_CLOSING) (nomark _)) (pss_cons (ps_set (i := 3) sc_taken.nd rfl (Or.inl rfl) (kx_bm0 (K := K) PySem.F.plainAttrs_list PySem.F.slot_list_pop PySem.F.type_list_pop mt_pop (pv 1)))
      (pss_cons (ps_set (i := 4) sc_taken.nd rfl (Or.inl rfl) (kx_bm0 (K := K) PySem.F.plainAttrs_list PySem.F.slot_list_pop PySem.F.type_list_pop mt_pop (pv 2)))
      (pss_cons (ps_expr (kx_bm (K := K) PySem.F.plainAttrs_list PySem.F.slot_list_extend PySem.F.type_list_extend mt_extend (pe_ix (k_ixl (K := K)) (pv 1) (pe_un un_neg pe_int) (fun _ _ => rfl)) (pa_cons (pe_op op_rep (pv 3) (pv 4)) pa_nil)))
      (pss_one (ps_ret (pe_op op_mul (pe_callB (k_len (K := K)) rfl (T.own _ (by decide)) boot_len (pa_cons (pv 3) pa_nil)) (pe_op op_sub (pv 4) pe_int))))))) pss_nil)
      (pss_cons (ps_if (pt_val (kx_bm (K := K) PySem.F.plainAttrs_str PySem.F.slot_str_endswith PySem.F.type_str_endswith mt_endswith (pv 0) (pa_cons (pe_gS T.k_OPENING) pa_nil))) (pss_cons (ps_expr (kx_bm (K := K) PySem.F.plainAttrs_list PySem.F.slot_list_append PySem.F.type_list_append mt_append (pv 1) (pa_cons (pe_lst pa_nil) pa_nil)))
      (pss_cons (ps_expr (kx_bm (K := K) PySem.F.plainAttrs_list PySem.F.slot_list_append PySem.F.type_list_append mt_append (pv 2) (pa_cons (pe_callF c_times_of hr (pa_cons (pv 0) pa_nil)) pa_nil)))
      (pss_one (ps_ret pe_int)))) pss_nil)
      (pss_cons (ps_expr (kx_bm (K := K) PySem.F.plainAttrs_list PySem.F.slot_list_append PySem.F.type_list_append mt_append (pe_ix (k_ixl (K := K)) (pv 1) (pe_un un_neg pe_int) (fun _ _ => rfl)) (pa_cons (pv 0) pa_nil)))
      (pss_one (ps_ret pe_int))))), ?_⟩
    obtain ⟨held, times, count⟩ := s0
    have hK := K0.hs.len
    walk_at "w"
    refine iteP (fun h1 => ?_) (fun h1 => ?_)
    ·
      unfold MFew.step at hst
      rw [if_pos h1] at hst
      split at hst
      rotate_left
      · cases hst
      rename_i u v st t1 ts e1 e2
      simp only at e1 e2
      subst e1 e2
      split at hst
      rotate_left
      · cases hst
      rename_i hc
      cases hst
      obtain ⟨hne, hcm⟩ := hc
      simp only at hcm
      match as, hK, K0 with
      | a :: b :: as, hK, K0 =>
        obtain ⟨ha, hb, hr'⟩ := K0.hs
        have htm := K0.tm t1 List.mem_cons_self
        have nd := K0.nd
        have nab : a ≠ b := fun z => by rw [z] at nd; simp at nd
        have nha : h ≠ a := fun z => K0.nh (by rw [z]; simp)
        have nhb : h ≠ b := fun z => K0.nh (by rw [z]; simp)
        have nta : t ≠ a := fun z => K0.nt (by rw [z]; simp)
        have ntb : t ≠ b := fun z => K0.nt (by rw [z]; simp)
        have mul1 : u.length * 1 ≤ u.length * (t1 - 1) := Nat.mul_le_mul_left _ (by omega)
        have sm := K0.sm
        simp only [List.map_cons, List.sum_cons] at sm
        have ct := K0.ct
        simp only at ct
        walk_at "w"
        refine tyL (SqL.of K0.hh) ?_
        walk_at "w"
        have eL : ((a :: b :: as).reverse.map V.ref) = (b :: as).reverse.map V.ref ++ [.ref a] := by rw [List.reverse_cons, List.map_append]; rfl
        refine ⟨h, _, .ref a, rfl, rfl, K0.hh, by rw [eL]; simp, ?_⟩
        rw [eL, List.dropLast_concat]
        have f1 : ∀ x o, x ≠ h → H x = some o → upd H h (HO.lst ((b :: as).reverse.map V.ref)) x = some o := fun x o hx e => by rw [upd_ne hx]; exact e
        have g1 : upd H h (HO.lst ((b :: as).reverse.map V.ref)) h = _ := upd_same
        have n1 : ∀ x, x ≠ h → H x = none → upd H h (HO.lst ((b :: as).reverse.map V.ref)) x = none := fun x hx e => by rw [upd_ne hx]; exact e
        have m1 : ∀ x, upd H h (HO.lst ((b :: as).reverse.map V.ref)) x = none → H x = none := fun x e => by
          by_cases hx : x = h
          · rw [hx, upd_same] at e; cases e
          · rw [upd_ne hx] at e; exact e
        generalize upd H h (HO.lst ((b :: as).reverse.map V.ref)) = H1 at f1 g1 n1 m1 ⊢
        walk_at "w"
        have eT : ((t1 :: ts).reverse.map nV) = ts.reverse.map nV ++ [nV t1] := by rw [List.reverse_cons, List.map_append]; rfl
        have ht1 := f1 t _ (Ne.symm K0.ne) K0.ht
        refine tyL (SqL.of ht1) ?_
        walk_at "w"
        refine ⟨t, _, nV t1, rfl, rfl, ht1, by show ((t1 :: ts).reverse.map nV)[_]? = _; rw [eT]; simp, ?_⟩
        have eT2 : HO.lst ((({ held := u :: v :: st, times := t1 :: ts, count := count } : MFew.Sm Str).times.reverse.map nV).dropLast) = HO.lst (ts.reverse.map nV) := by
          show HO.lst (((t1 :: ts).reverse.map nV).dropLast) = _
          rw [eT, List.dropLast_concat]
        rw [eT2]
        have f2 : ∀ x o, x ≠ t → H1 x = some o → upd H1 t (HO.lst (ts.reverse.map nV)) x = some o := fun x o hx e => by rw [upd_ne hx]; exact e
        have g2 : upd H1 t (HO.lst (ts.reverse.map nV)) t = _ := upd_same
        have m2 : ∀ x, upd H1 t (HO.lst (ts.reverse.map nV)) x = none → H1 x = none := fun x e => by
          by_cases hx : x = t
          · rw [hx, upd_same] at e; cases e
          · rw [upd_ne hx] at e; exact e
        generalize upd H1 t (HO.lst (ts.reverse.map nV)) = H2 at f2 g2 m2 ⊢
        walk_at "w"
        have gh2 := f2 h _ K0.ne g1
        have eL2 : ((b :: as).reverse.map V.ref) = as.reverse.map V.ref ++ [.ref b] := by rw [List.reverse_cons, List.map_append]; rfl
        refine rd_ixL (SqL.of gh2) (by rw [eL2]; exact atI_snoc) ?_
        walk_at "w"
        have gb2 := f2 b _ (Ne.symm ntb) (f1 b _ (Ne.symm nhb) hb)
        have ga2 := f2 a _ (Ne.symm nta) (f1 a _ (Ne.symm nha) ha)
        refine tyL (SqL.of gb2) ?_
        walk_at "w"
        refine rd_rep ga2 (by omega) (by omega) (by rw [List.length_map]; omega) fun q hq => ?_
        rw [show ((t1 : Nat) : Int).toNat = t1 by omega, rep_len2]
        have s3 := same_new (o := HO.lst ((MFew.rep u t1).map V.str)) hq
        have g3 : upd H2 q (HO.lst ((MFew.rep u t1).map V.str)) q = _ := upd_same
        generalize upd H2 q (HO.lst ((MFew.rep u t1).map V.str)) = H3 at s3 g3 ⊢
        walk_at "w"
        have mul2 : u.length * t1 = u.length * (t1 - 1) + u.length := by
          obtain ⟨n, rfl⟩ : ∃ n, t1 = n + 1 := ⟨t1 - 1, by omega⟩
          rw [Nat.add_sub_cancel, Nat.mul_succ]
        refine rd_ext (s3 _ _ gb2) g3 (by rw [List.length_map, List.length_map, MFew.rep_len]; omega) ?_
        rw [← List.map_append]
        have f4 : ∀ x o, x ≠ b → H3 x = some o → upd H3 b (HO.lst ((v ++ MFew.rep u t1).map V.str)) x = some o := fun x o hx e => by rw [upd_ne hx]; exact e
        have g4 : upd H3 b (HO.lst ((v ++ MFew.rep u t1).map V.str)) b = _ := upd_same
        generalize upd H3 b (HO.lst ((v ++ MFew.rep u t1).map V.str)) = H4 at f4 g4 ⊢
        walk_at "w"
        refine rd_lenL (SqL.of (f4 a _ nab (s3 _ _ ga2))) ?_
        walk_at "w"
        rw [List.length_map]
        have hmul : ((u.length : Nat) : Int) * (((t1 : Nat) : Int) - 1) = ((u.length * (t1 - 1) : Nat) : Int) := by
          rw [Int.natCast_mul, Int.natCast_sub (by omega)]
          rfl
        refine rd_rI (.inl ⟨by omega, by omega⟩) ?_
        rw [hmul]
        have z0 := k H4 (b :: as) (fun x o hx1 hx2 hx3 e => ?_) (fun x hx => .inl (List.mem_cons_of_mem _ hx)) ⟨?_, ?_, ?_, ?_, fun hx => K0.nh (List.mem_cons_of_mem _ hx), fun hx => K0.nt (List.mem_cons_of_mem _ hx), K0.ne, fun n hn => K0.tm n (List.mem_cons_of_mem _ hn), ?_, ?_, ?_, ?_⟩
        · have e9 : ((count + u.length * (t1 - 1) : Nat) : Int) - ((count : Nat) : Int) = ((u.length * (t1 - 1) : Nat) : Int) := by omega
          rw [← e9]
          exact z0
        · have hxb : x ≠ b := fun z => hx3 (by rw [z]; simp)
          exact f4 x _ hxb (s3 _ _ (f2 x _ hx2 (f1 x _ hx1 e)))
        · exact f4 h _ nhb (s3 _ _ gh2)
        · exact f4 t _ ntb (s3 _ _ g2)
        · refine ⟨g4, hr'.on fun x hx o e => ?_⟩
          have hxb : x ≠ b := fun z => by rw [z] at hx; simp [hx] at nd
          have hxh : x ≠ h := fun z => K0.nh (by rw [← z]; simp [hx])
          have hxt : x ≠ t := fun z => K0.nt (by rw [← z]; simp [hx])
          exact f4 x _ hxb (s3 _ _ (f2 x _ hxt (f1 x _ hxh e)))
        · exact (List.nodup_cons.mp nd).2
        · simp only [List.map_cons, List.sum_cons, List.length_append, MFew.rep_len]
          omega
        · have := K0.dp
          simp only [List.length_cons] at this ⊢
          omega
        · have := K0.up
          simp only [List.length_cons] at this ⊢
          omega
        · exact hcm
    walk_at "w"
    refine ⟨rfl, ?_⟩
    walk_at "w"
    refine ⟨_, _, rfl, rfl, ?_⟩
    walk_at "w"
    unfold MFew.step at hst
    rw [if_neg h1] at hst
    refine iteB (fun h2 => ?_) (fun h2 => ?_)
    ·
      have h2 : Txt.endswith z opS = true := h2
      unfold tms at hst
      rw [if_pos h2] at hst
      rcases timesV_cases z with e | ⟨n, e, n2, n60⟩
      · rw [e] at hst
        cases hst
      rw [e] at hst
      simp only [Int.toNat_natCast] at hst
      split at hst
      rotate_left
      · cases hst
      rename_i hc
      cases hst
      walk_at "w"
      refine tyL (SqL.of K0.hh) ?_
      walk_at "w"
      intro p hp
      have s1 := same_new (o := HO.lst []) hp
      have g1 : upd H p (HO.lst []) p = some (.lst (([] : List Str).map V.str)) := upd_same
      generalize upd H p (HO.lst []) = H1 at s1 g1 ⊢
      have la : as.length ≤ 900 := by rw [hK]; exact h900
      walk_at "w"
      refine rd_app (s1 _ _ K0.hh) (by rw [List.length_map, List.length_reverse]; omega) ?_
      have eL : as.reverse.map V.ref ++ [V.ref p] = (p :: as).reverse.map V.ref := by rw [List.reverse_cons, List.map_append]; rfl
      rw [eL]
      have npo : ∀ x o, H x = some o → x ≠ p := fun x o e z => by rw [z, hp] at e; cases e
      have f2 : ∀ x o, x ≠ h → H1 x = some o → upd H1 h (HO.lst ((p :: as).reverse.map V.ref)) x = some o := fun x o hx e => by rw [upd_ne hx]; exact e
      have g2 : upd H1 h (HO.lst ((p :: as).reverse.map V.ref)) h = _ := upd_same
      generalize upd H1 h (HO.lst ((p :: as).reverse.map V.ref)) = H2 at f2 g2 ⊢
      walk_at "w"
      have ht2 := f2 t _ (Ne.symm K0.ne) (s1 _ _ K0.ht)
      refine tyL (SqL.of ht2) ?_
      walk_at "w"
      refine ⟨z, rfl, hz, fun H3 s3 => ?_⟩
      rw [e]
      walk_at "w"
      have dp := K0.dp
      simp only at dp hK
      refine rd_app (s3 _ _ ht2) (by rw [List.length_map, List.length_reverse]; show times.length < _; omega) ?_
      have eT : (({ held := held, times := times, count := count } : MFew.Sm Str).times.reverse.map nV) ++ [nV n] = (n :: times).reverse.map nV := by rw [List.reverse_cons, List.map_append]; rfl
      rw [eT]
      have f4 : ∀ x o, x ≠ t → H3 x = some o → upd H3 t (HO.lst ((n :: times).reverse.map nV)) x = some o := fun x o hx e => by rw [upd_ne hx]; exact e
      have g4 : upd H3 t (HO.lst ((n :: times).reverse.map nV)) t = _ := upd_same
      generalize upd H3 t (HO.lst ((n :: times).reverse.map nV)) = H4 at f4 g4 ⊢
      walk_at "w"
      have hph : p ≠ h := Ne.symm (npo h _ K0.hh)
      have hpt : p ≠ t := Ne.symm (npo t _ K0.ht)
      have hpa : p ∉ as := fun z => by
        have : ∀ {as : List Addr} {us : List (List Str)}, AtL H as us → p ∈ as → False := fun {as us} => by
          induction as generalizing us with
          | nil => intro _ h; cases h
          | cons a as ih =>
            intro q h
            match us, q with
            | u :: us, q =>
              rcases List.mem_cons.mp h with z | z
              · have := q.1
                rw [← z, hp] at this
                cases this
              · exact ih q.2 z
        exact this K0.hs z
      have z0 := k H4 (p :: as) (fun x o hx1 hx2 hx3 e => f4 x _ hx2 (s3 _ _ (f2 x _ hx1 (s1 _ _ e)))) (fun x hx => ?_) ⟨?_, ?_, ?_, ?_, ?_, ?_, K0.ne, ?_, ?_, ?_, ?_, ?_⟩
      · have e9 : ((count : Nat) : Int) - ((count : Nat) : Int) = 0 := by omega
        simp only [e9] at z0
        exact z0
      · rcases List.mem_cons.mp hx with z | z
        · rw [z]; exact .inr hp
        · exact .inl z
      · exact f4 h _ K0.ne (s3 _ _ g2)
      · exact g4
      · refine ⟨f4 p _ hpt (s3 _ _ (f2 p _ hph g1)), K0.hs.on fun x hx o e => ?_⟩
        have hxh : x ≠ h := fun z => K0.nh (by rw [← z]; exact hx)
        have hxt : x ≠ t := fun z => K0.nt (by rw [← z]; exact hx)
        exact f4 x _ hxt (s3 _ _ (f2 x _ hxh (s1 _ _ e)))
      · exact List.nodup_cons.mpr ⟨hpa, K0.nd⟩
      · intro hx
        rcases List.mem_cons.mp hx with z | z
        · exact hph z.symm
        · exact K0.nh z
      · intro hx
        rcases List.mem_cons.mp hx with z | z
        · exact hpt z.symm
        · exact K0.nt z
      · intro m hm
        rcases List.mem_cons.mp hm with z | z
        · rw [z]; exact ⟨n2, n60⟩
        · exact K0.tm m z
      · have := K0.sm
        simp only [List.map_cons, List.sum_cons, List.length_nil] at this ⊢
        omega
      · simp only [List.length_cons]
        omega
      · simp only [List.length_cons] at h900 ⊢
        omega
      · exact K0.ct
    ·
      have h2 : Txt.endswith z opS = false := h2
      have e : tms z = none := if_neg (by rw [h2]; decide)
      rw [e] at hst
      simp only at hst
      split at hst
      rotate_left
      · cases hst
      rename_i u st
      split at hst
      rotate_left
      · cases hst
      rename_i hc
      cases hst
      match as, hK, K0 with
      | a :: as, hK, K0 =>
        obtain ⟨ha, hr'⟩ := K0.hs
        have nd := K0.nd
        have nha : h ≠ a := fun z => K0.nh (by rw [z]; simp)
        have nta : t ≠ a := fun z => K0.nt (by rw [z]; simp)
        have sm := K0.sm
        have ct := K0.ct
        simp only [List.map_cons, List.sum_cons] at sm ct
        walk_at "w"
        have eL : ((a :: as).reverse.map V.ref) = as.reverse.map V.ref ++ [.ref a] := by rw [List.reverse_cons, List.map_append]; rfl
        refine rd_ixL (SqL.of K0.hh) (by rw [eL]; exact atI_snoc) ?_
        walk_at "w"
        refine tyL (SqL.of ha) ?_
        walk_at "w"
        refine rd_app ha (by rw [List.length_map]; omega) ?_
        have e2 : u.map V.str ++ [V.str z] = (u ++ [z]).map V.str := by rw [List.map_append]; rfl
        rw [e2]
        have f1 : ∀ x o, x ≠ a → H x = some o → upd H a (HO.lst ((u ++ [z]).map V.str)) x = some o := fun x o hx e => by rw [upd_ne hx]; exact e
        have g1 : upd H a (HO.lst ((u ++ [z]).map V.str)) a = _ := upd_same
        generalize upd H a (HO.lst ((u ++ [z]).map V.str)) = H1 at f1 g1 ⊢
        walk_at "w"
        have z0 := k H1 (a :: as) (fun x o hx1 hx2 hx3 e => f1 x _ (fun z => hx3 (by rw [z]; simp)) e) (fun x hx => .inl hx) ⟨f1 h _ nha K0.hh, f1 t _ nta K0.ht, ⟨g1, hr'.on fun x hx o e => f1 x _ (fun z => by rw [z] at hx; simp [hx] at nd) e⟩, nd, K0.nh, K0.nt, K0.ne, K0.tm, ?_, K0.dp, K0.up, hc.2⟩
        · have e9 : ((count + 1 : Nat) : Int) - ((count : Nat) : Int) = 1 := by omega
          simp only [e9] at z0
          exact z0
        · simp only [List.map_cons, List.sum_cons, List.length_append, List.length_singleton]
          omega
end
end K03
open L2
namespace K03
open PySem L2 PySem.Spec PyProof.Rows
seal L2.PE L2.PT L2.PW L2.PA L2.PS L2.PSs L2.PI L2.PG L2.PTs L2.PGs
section
variable {P : Program} {w : World} {K : PySem.W.Frag} {mg : Str → Option Value} {base : Heap} {c : Cs}
theorem run_at {fits : Str → Bool} {s0 s e : MFew.Sm Str} {ws : List Str} {i : Nat} (h : MFew.run clS tms fits 60 s0 ws = some e) (hi : i < ws.length) (hs : MFew.run clS tms fits 60 s0 (ws.take i) = some s) :
    ∃ s', MFew.step clS tms fits 60 s (ws.getD i "") = some s' ∧ MFew.run clS tms fits 60 s0 (ws.take (i + 1)) = some s' := by
  have eg : ws.getD i "" = ws[i] := by rw [List.getD_eq_getElem?_getD, List.getElem?_eq_getElem hi]; rfl
  rw [eg]
  have e1 : ws = ws.take i ++ ws[i] :: ws.drop (i + 1) := by rw [List.getElem_cons_drop, List.take_append_drop]
  have e2 : ws.take (i + 1) = ws.take i ++ [ws[i]] := by rw [List.take_succ, List.getElem?_eq_getElem hi]; rfl
  conv at h => lhs; rw [e1]
  rw [MFew.run_app, hs] at h
  rw [e2, MFew.run_app, hs]
  simp only [MFew.run] at h ⊢
  cases hq : MFew.step clS tms fits 60 s ws[i] with
  | none => rw [hq] at h; cases h
  | some s' => exact ⟨s', rfl, rfl⟩
theorem stand_of {fits : Str → Bool} {u : List Str} {st : List (List Str)} {ts : List Nat} {c : Nat} {z : Str} {s' : MFew.Sm Str} (h : MFew.step clS tms fits 60 ⟨u :: st, ts, c⟩ z = some s') : standB z ts.length u.length true = true ∧ (z ≠ clS → Txt.endswith z opS = false → fits z = true) ∧ s'.count ≤ 60 := by
  unfold MFew.step at h
  unfold standB
  by_cases h1 : z = clS
  · rw [if_pos h1] at h ⊢
    refine ⟨?_, fun q => absurd h1 q, ?_⟩
    · split at h
      · rename_i e1 e2
        simp only at e1 e2
        subst e2
        split at h
        · rename_i hc
          cases e1
          rw [List.length_cons, decide_eq_true (by omega), decide_eq_true (List.length_pos_iff.mpr hc.1)]
          rfl
        · cases h
      · cases h
    · split at h
      · split at h
        · rename_i hc
          cases h
          exact hc.2
        · cases h
      · cases h
  · rw [if_neg h1] at h ⊢
    by_cases h2 : Txt.endswith z opS = true
    · rw [if_pos h2]
      unfold tms at h
      rw [if_pos h2] at h
      refine ⟨?_, fun _ q => (by rw [h2] at q; cases q), ?_⟩
      · rcases timesV_cases z with e | ⟨n, e, _⟩
        · rw [e] at h; cases h
        · rw [e]; rfl
      · split at h
        · split at h
          · rename_i hc
            cases h
            exact hc
          · cases h
        · cases h
        · split at h
          · split at h
            · rename_i hc
              cases h
              exact hc.2
            · cases h
          · cases h
    · rw [if_neg h2]
      have e : tms z = none := if_neg h2
      rw [e] at h
      simp only at h
      split at h
      · rename_i hc
        cases h
        exact ⟨rfl, fun _ _ => hc.1, hc.2⟩
      · cases h
theorem step_len {fits : Str → Bool} {s s' : MFew.Sm Str} {z : Str} (h : MFew.step clS tms fits 60 s z = some s') : s'.held.length ≤ s.held.length + 1 := by
  unfold MFew.step at h
  split at h
  · split at h
    · rename_i e1 e2
      split at h
      · cases h
        rw [e1]
        simp only [List.length_cons]
        omega
      · cases h
    · cases h
  · split at h
    · split at h
      · cases h
        simp only [List.length_cons]
        omega
      · cases h
    · cases h
    · split at h
      · rename_i e1
        split at h
        · cases h
          rw [e1]
          simp only [List.length_cons]
          omega
        · cases h
      · cases h
theorem Stk.on {H H' : Hp} {h t : Addr} {as : List Addr} {s : MFew.Sm Str} (K : Stk H h t as s) (k : Same H H') : Stk H' h t as s := ⟨k _ _ K.hh, k _ _ K.ht, K.hs.on fun a _ o e => k a o e, K.nd, K.nh, K.nt, K.ne, K.tm, K.sm, K.dp, K.up, K.ct⟩
noncomputable def sp_spread (K : PySem.W.Frag) (fl : Addr) (sL : Sp) : Sp := fun vs H Q _ => ∃ (a : Addr) (ws out : List Str) (cn : Nat) (fits : Str → Bool), vs = [.ref a, .int 60, .ref fl] ∧ SqL K H a (ws.map V.str) ∧ ws ≠ [] ∧ ws.length ≤ 800 ∧ (∀ z ∈ ws, z.length ≤ 100) ∧ MFew.run clS tms fits 60 ⟨[[]], [], 0⟩ ws = some ⟨[out], [], cn⟩ ∧
  (∀ z ∈ ws, z ≠ clS → Txt.endswith z opS = false → fits z = true → ∀ H' (Q' : VK), Same H H' → Q' (.bl true) H' → sL [.str z] H' Q' E0) ∧ ∀ H' p, Same H H' → H p = none → H' p = some (.lst (out.map V.str)) → Q (.ref p) H'
noncomputable abbrev s_spread : Stmt := top 18
theorem sc_spread : FnScope ["words", "most", "fits", "row", "held", "times", "count", "place", "word"] ["words", "most", "fits"] (defScope s_spread) := ⟨rfl, rfl, rfl, by decide +kernel, rfl, by decide +kernel, by decide +kernel⟩
theorem ok_spread {f : Addr} {fd : FuncData} {fl : Addr} {sL : Sp} (lv : LamV P w K mg base 1 fl sL) (F : Fun K "spread" "spread" s_spread f fd) (T : Txt K mg c) (c_can_stand : CallF P w K mg base "can_stand" 5 ["word", "held", "times", "fits"] (sp_can_stand fl sL)) (c_taken : CallF P w K mg base "taken" 5 ["word", "held", "times"] sp_taken) : FnOk P w K mg base CX0 6 f fd ["words", "most", "fits"] (sp_spread K fl sL) := by
  refine F.ok sc_spread (fun vs H Q E h => ?_) (fun cdv A outer s H vs Q E hr h => ?_)
  · obtain ⟨a, ws, out, cn, fits, rfl, _⟩ := h
    rfl
  · obtain ⟨a, ws, out, cn, fits, rfl, sa, hne, hl, hz, hrun, hf, k⟩ := h
    refine ⟨_, (pss_cons (ps_set (i := 3) sc_spread.nd rfl (Or.inl rfl) (pe_callTy (k_list (K := K)) rfl (T.own _ (by decide)) boot_list' (pa_cons (pv 0) pa_nil)))
      (pss_cons (ps_set (i := 4) sc_spread.nd rfl (Or.inl rfl) (pe_lst (pa_cons (pe_lst pa_nil) pa_nil)))
      (pss_cons (ps_set (i := 5) sc_spread.nd rfl (Or.inl rfl) (pe_lst pa_nil))
      (pss_cons (ps_set (i := 6) sc_spread.nd rfl (Or.inl rfl) pe_int)
      (pss_cons (ps_for PassesOwn.never rfl (pi_enumS (K := K) rfl (T.own _ (by decide)) (pa_cons (pv 3) pa_nil)) (k_gtup (K := K) rfl (pgs_cons (pg_name (i := 7) sc_spread.nd rfl (Or.inl rfl)) (pgs_cons (pg_name (i := 8) sc_spread.nd rfl (Or.inl rfl)) pgs_nil))) (pss_cons (ps_if (pt_not (pt_val (pe_callF c_can_stand hr (pa_cons (pv 8) (pa_cons (pv 4) (pa_cons (pv 5) (pa_cons (pv 2) pa_nil))))))) (pss_one ps_never) pss_nil)
      (pss_cons (ps_aug (i := 6) sc_spread.nd rfl (Or.inl rfl) (pe_callF c_taken hr (pa_cons (pv 8) (pa_cons (pv 4) (pa_cons (pv 5) pa_nil)))) iop_add)
      (pss_one (ps_if (pt_cmpR op_gt (pv 6) (pv 1) (nomark _)) (pss_one ps_never) pss_nil)))))
      (pss_cons (ps_if (PW.pt (pw_or (pt_cmpR op_gt (pe_callB (k_len (K := K)) rfl (T.own _ (by decide)) boot_len (pa_cons (pv 5) pa_nil)) pe_int (nomark _)) (pw_or1 (pt_cmpR op_eq (pe_callB (k_len (K := K)) rfl (T.own _ (by decide)) boot_len (pa_cons (pv 3) pa_nil)) pe_int (nomark _))))) (pss_one ps_never) pss_nil)
      (pss_one (ps_ret (pe_ix (k_ixl (K := K)) (pv 4) pe_int (fun _ _ => rfl)))))))))), ?_⟩
    walk_at "w"
    refine rd_listOf sa fun r hr0 => ?_
    have s1 := same_new (o := HO.lst (ws.map V.str)) hr0
    have g1 : upd H r (HO.lst (ws.map V.str)) r = _ := upd_same
    generalize upd H r (HO.lst (ws.map V.str)) = H1 at s1 g1 ⊢
    walk_at "w"
    intro p0 hp0
    have s2 := same_new (o := HO.lst []) hp0
    have g2 : upd H1 p0 (HO.lst []) p0 = some (.lst (([] : List Str).map V.str)) := upd_same
    generalize upd H1 p0 (HO.lst []) = H2 at s2 g2 ⊢
    walk_at "w"
    intro h0 hh0
    have s3 := same_new (o := HO.lst [V.ref p0]) hh0
    have g3 : upd H2 h0 (HO.lst [V.ref p0]) h0 = some (.lst ([p0].reverse.map V.ref)) := upd_same
    have n30 : h0 ≠ p0 := fun z => by rw [z, g2] at hh0; cases hh0
    generalize upd H2 h0 (HO.lst [V.ref p0]) = H3 at s3 g3 ⊢
    walk_at "w"
    intro t0 ht0
    have s4 := same_new (o := HO.lst []) ht0
    have g4 : upd H3 t0 (HO.lst []) t0 = some (.lst (([] : List Nat).reverse.map nV)) := upd_same
    have n40 : t0 ≠ p0 := fun z => by rw [z, s3 _ _ g2] at ht0; cases ht0
    have n43 : h0 ≠ t0 := fun z => by rw [← z, g3] at ht0; cases ht0
    generalize upd H3 t0 (HO.lst []) = H4 at s4 g4 ⊢
    have s14 := s2.trans (s3.trans s4)
    have fh : H1 h0 = none := s2.free hh0
    have ft : H1 t0 = none := s2.free (s3.free ht0)
    have K0 : Stk H4 h0 t0 [p0] ⟨[[]], [], 0⟩ := ⟨s4 _ _ g3, g4, ⟨s4 _ _ (s3 _ _ g2), trivial⟩, List.nodup_cons.mpr ⟨by simp, List.nodup_nil⟩, by simpa using n30, by simpa using n40, n43, fun n hn => (nomatch hn), rfl, rfl, by decide, by decide⟩
    walk_at "w"
    refine ⟨false, r, rfl, ⟨_, SqL.of (s14 _ _ g1)⟩, for_srcW (H0 := H1) (fs_enumS (tp := false) (SqL.of g1)) (fun i σ H5 => ∃ x y as s, σ = [some (.ref a), some (.int 60), some (.ref fl), some (.ref r), some (.ref h0), some (.ref t0), some (nV s.count), x, y] ∧ Same H1 H5 ∧ Stk H5 h0 t0 as s ∧ s.held.length ≤ 1 + i ∧ MFew.run clS tms fits 60 ⟨[[]], [], 0⟩ (ws.take i) = some s ∧ ∀ b ∈ as, H1 b = none)
      ⟨_, _, [p0], ⟨[[]], [], 0⟩, rfl, s14, K0, by decide, rfl, by simpa using hp0⟩ (fun i σ H5 ⟨_, _, _, _, _, s, _⟩ => s) ?_ ?_⟩
    · rintro i σ H5 H6 hi ⟨x, y, as, s0, rfl, s5, K5, l5, r5, n5⟩ s6
      rw [List.length_map] at hi
      obtain ⟨s', hst, r6⟩ := run_at hrun hi r5
      have eg : (ws.map V.str).getD i .non = .str (ws.getD i "") := by
        rw [List.getD_eq_getElem?_getD, List.getElem?_map, List.getD_eq_getElem?_getD, List.getElem?_eq_getElem hi]
        rfl
      rw [eg]
      have hm : ws.getD i "" ∈ ws := by
        rw [List.getD_eq_getElem?_getD, List.getElem?_eq_getElem hi]
        exact List.getElem_mem hi
      generalize ws.getD i "" = z at hst hm ⊢
      obtain ⟨held, times, count⟩ := s0
      have K6 := K5.on s6
      match as, held, K5.hs, K5.dp with
      | [], [], _, dp => exact absurd (show 0 = times.length + 1 from dp) (by omega)
      | a0 :: as, u :: st, _, _ =>
        obtain ⟨b1, b2, b3⟩ := stand_of hst
        have hz6 := hz z hm
        walk_at "w"
        have eL : ((a0 :: as).reverse.map V.ref) = as.reverse.map V.ref ++ [.ref a0] := by rw [List.reverse_cons, List.map_append]; rfl
        refine ⟨z, h0, t0, a0, as.reverse.map V.ref, u, times.reverse.map nV, true, rfl, hz6, by rw [← eL]; exact K6.hh, K6.hs.1, K6.ht, fun q1 q2 Q' q => hf z hm q1 q2 (b2 q1 q2) H6 Q' (s1.trans (s5.trans s6)) q, fun H7 s7 => ?_⟩
        rw [List.length_map, List.length_reverse, b1]
        have K7 := K6.on s7
        walk_at "w"
        refine rd_aug rfl ?_
        walk_at "w"
        refine ⟨z, h0, t0, a0 :: as, _, s', fits, rfl, hz6, K7, by simp only [List.length_cons] at l5 ⊢; omega, hst, fun H8 as' fr mem K8 => ?_⟩
        walk_at "w"
        have e9 : ((count : Nat) : Int) + (((s'.count : Nat) : Int) - ((count : Nat) : Int)) = ((s'.count : Nat) : Int) := by omega
        simp only [e9]
        refine iteP (fun q => absurd q (by omega)) (fun _ => ?_)
        walk_at "w"
        refine ⟨_, _, as', s', rfl, fun b o e => ?_, K8, ?_, r6, fun b hb => ?_⟩
        · exact fr b o (fun q => by rw [q, fh] at e; cases e) (fun q => by rw [q, ft] at e; cases e) (fun q => by rw [n5 b q] at e; cases e) (s7 _ _ (s6 _ _ (s5 _ _ e)))
        · have := step_len hst
          simp only [List.length_cons] at this l5 ⊢
          omega
        · rcases mem b hb with q | q
          · exact n5 b q
          · exact s5.free (s6.free (s7.free q))
    · rintro σ H5 ⟨x, y, as, s0, rfl, s5, K5, l5, r5, n5⟩
      rw [List.length_map, List.take_length, hrun] at r5
      cases r5
      match as, K5.hs with
      | [p], hp =>
        walk_at "w"
        refine rd_lenL (SqL.of K5.ht) ?_
        walk_at "w"
        refine iteP (fun q => absurd q (by simp)) (fun _ => ?_)
        walk_at "w"
        refine rd_lenL (SqL.of (s5 _ _ g1)) ?_
        walk_at "w"
        rw [List.length_map]
        refine iteP (fun q => absurd (List.length_eq_zero_iff.mp (by omega)) hne) (fun _ => ?_)
        walk_at "w"
        refine rd_ixL (SqL.of K5.hh) (v := .ref p) rfl ?_
        exact k H5 p (s1.trans s5) (s1.free (n5 p (by simp))) hp.1
end
end K03
open L2
namespace K03
open PySem L2 PySem.Spec PyProof.Rows
seal L2.PE L2.PT L2.PW L2.PA L2.PS L2.PSs L2.PI L2.PG L2.PTs L2.PGs
section
variable {P : Program} {w : World} {K : PySem.W.Frag} {mg : Str → Option Value} {base : Heap} {c : Cs}
noncomputable def opn (t : Nat) : Str := (Str.ofString (toString ((t : Nat) : Int))) ++ opS
noncomputable def LookT (H : Hp) (kvs : List (List Key × V)) (T : Nat → Nat → List Str) (a b : Nat) : Prop := ∃ p, valV kvs [.inl (a : Nat), .inl (b : Nat)] = some (.ref p) ∧ H p = some (.lst ((T a b).map V.str)) ∧ (T a b).length ≤ 1000
theorem LookT.on {H H' : Hp} {kvs : List (List Key × V)} {T : Nat → Nat → List Str} {a b : Nat} (h : LookT H kvs T a b) (s : Same H H') : LookT H' kvs T a b := let ⟨p, e, g, l⟩ := h; ⟨p, e, s _ _ g, l⟩
noncomputable def BestV (H0 H : Hp) (b : Option (List Str)) (v : V) : Prop := (b = none ∧ v = .non) ∨ ∃ R p, b = some R ∧ v = .ref p ∧ H p = some (.lst (R.map V.str)) ∧ H0 p = none ∧ R.length ≤ 2002
theorem BestV.on {H0 H H' : Hp} {b : Option (List Str)} {v : V} (h : BestV H0 H b v) (s : Same H H') : BestV H0 H' b v := by
  rcases h with h | ⟨R, p, h1, h2, h3, h4, h5⟩
  · exact .inl h
  · exact .inr ⟨R, p, h1, h2, s _ _ h3, h4, h5⟩
theorem cut_str {xs : List Str} {i j : Nat} (h : i ≤ j) : cutV (xs.map V.str) (some (i : Nat)) (some (j : Nat)) = (MFew.sl xs i j).map V.str := by
  rw [cut_mid (by omega) (by omega)]
  unfold MFew.sl
  rw [Int.toNat_natCast, Int.toNat_natCast, List.map_take, List.map_drop, List.drop_take]
theorem eqS_list {K : PySem.W.Frag} {H : Hp} {Q : VK} {l p : Addr} {as bs : List Str} (c : SqL K H l (as.map V.str)) (d : SqL K H p (bs.map V.str)) (h : Q (.bl (!decide (as = bs))) H) : rEqL K true (.ref l) (.ref p) H Q :=
  ⟨l, p, _, _, rfl, rfl, c, d, by simp [flatV], by simp [flatV], by rw [eqVs_strs]; exact h⟩
noncomputable def sp_as_group (K : PySem.W.Frag) : Sp := fun vs H Q _ => ∃ (x d : Addr) (xs : List Str) (i j : Nat) (kvs : List (List Key × V)) (T : Nat → Nat → List Str), vs = [.ref x, nV i, nV j, .ref d] ∧ SqL K H x (xs.map V.str) ∧ i < j ∧ j ≤ xs.length ∧ xs.length ≤ 60 ∧ H d = some (.dT kvs) ∧
  (∀ a b, i ≤ a → a < b → b ≤ j → b - a < j - i → LookT H kvs T a b) ∧ ∀ H' v, Same H H' → BestV H H' (MFew.asGroup opn clS T xs i j) v → Q v H'
noncomputable abbrev s_as_group : Stmt := top 19
theorem sc_as_group : FnScope ["items", "first", "behind", "told", "length", "best", "part", "times", "words"] ["items", "first", "behind", "told"] (defScope s_as_group) := ⟨rfl, rfl, rfl, by decide +kernel, rfl, by decide +kernel, by decide +kernel⟩
theorem ok_as_group {f : Addr} {fd : FuncData} (F : Fun K "as_group" "as_group" s_as_group f fd) (T : Txt K mg c) (c_number_text : CallF P w K mg base "number_text" 1 ["number"] sp_number_text) : FnOk P w K mg base CX0 2 f fd ["items", "first", "behind", "told"] (sp_as_group K) := by
  refine F.ok sc_as_group (fun vs H Q E h => ?_) (fun cdv A outer s H vs Q E hr h => ?_)
  · obtain ⟨x, d, xs, i, j, kvs, T, rfl, _⟩ := h
    rfl
  · obtain ⟨x, d, xs, i, j, kvs, Tb, rfl, sx, hij, hj, h60, hd, ht, k⟩ := h
    have hu := hr.units0
    have hu1 := hr.units1
    refine ⟨_, (pss_cons (ps_set (i := 4) sc_as_group.nd rfl (Or.inl rfl) (pe_op op_sub (pv 2) (pv 1)))
      (pss_cons (ps_set (i := 5) sc_as_group.nd rfl (Or.inl rfl) pe_non)
      (pss_cons (ps_for PassesOwn.never rfl (pi_range2 rfl (T.own _ (by decide)) (pa_cons pe_int (pa_cons (pe_op op_add (pe_op op_fdivL (pv 4) pe_int) pe_int) pa_nil))) (pg_name (i := 6) sc_as_group.nd rfl (Or.inl rfl)) (pss_cons (ps_set (i := 7) sc_as_group.nd rfl (Or.inl rfl) (pe_op op_fdivL (pv 4) (pv 6)))
      (pss_cons (ps_if (PW.pt (pw_or (pt_cmpR op_ne (pe_op op_mod (pv 4) (pv 6)) pe_int (nomark _)) (pw_or1 (pt_cmpR op_gt (pv 7) (pe_gI T.k_MOST_TIMES) (nomark _))))) (pss_one ps_continue) pss_nil)
      (pss_cons (ps_if (pt_cmpR (k_nel hu (K := K)) (pe_slice (k_sll (K := K)) (pv 0) (po_some (pv 1)) (po_some (pe_op op_sub (pv 2) (pv 6)))) (pe_slice (k_sll (K := K)) (pv 0) (po_some (pe_op op_add (pv 1) (pv 6))) (po_some (pv 2))) (nomark _)) (pss_one ps_continue) pss_nil)
      (pss_cons (ps_set (i := 8) sc_as_group.nd rfl (Or.inl rfl) (pe_dget hu1 (pv 3) (pe_tup (pa_cons (pv 1) (pa_cons (pe_op op_add (pv 1) (pv 6)) pa_nil))) (fun _ _ => rfl)))
      (pss_one (ps_if (PW.pt (pw_or (pt_cmpR op_isN (pv 5) pe_non (nomark _)) (pw_or1 (pt_cmpR op_lt (pe_op op_add (pe_callB (k_len (K := K)) rfl (T.own _ (by decide)) boot_len (pa_cons (pv 8) pa_nil)) pe_int) (pe_callB (k_len (K := K)) rfl (T.own _ (by decide)) boot_len (pa_cons (pv 5) pa_nil)) (nomark _))))) (pss_one (ps_set (i := 5) sc_as_group.nd rfl (Or.inl rfl) (pe_op (k_cat (K := K)) (pe_op (k_cat (K := K)) (pe_lst (pa_cons (pe_op op_add_str (pe_callF c_number_text hr (pa_cons (pv 7) pa_nil)) (pe_gS T.k_OPENING)) pa_nil)) (pv 8)) (pe_lst (pa_cons (pe_gS T.k_CLOSING) pa_nil))))) pss_nil)))))))
      (pss_one (ps_ret (pv 5)))))), ?_⟩
    walk_at "w"
    have eS : ((j : Nat) : Int) - ((i : Nat) : Int) = ((j - i : Nat) : Int) := by omega
    rw [eS]
    refine rd_rI ⟨by decide, by decide⟩ ?_
    walk_at "w"
    have eN : (((j - i : Nat) : Int) / 2 + 1 - 1).toNat = (j - i) / 2 := by omega
    refine ⟨_, _, rfl, ⟨by decide, by decide, by omega, by omega⟩, ?_⟩
    rw [eN]
    refine for_src (fs_range (n := (j - i) / 2)) (fun m σ H3 => ∃ v x6 x7 x8, σ = [some (.ref x), some (nV i), some (nV j), some (.ref d), some (nV (j - i)), some v, x6, x7, x8] ∧ Same H H3 ∧ BestV H H3 ((List.range' 1 m).foldl (MFew.gStep opn clS Tb xs i j) none) v) ⟨_, _, _, _, rfl, Same.refl _, .inl ⟨rfl, rfl⟩⟩ (fun m σ H3 ⟨_, _, _, _, _, s, _⟩ => s) ?_ ?_
    · rintro m σ H1 H2 hm ⟨v, x6, x7, x8, rfl, s1, b1⟩ s2
      have sC := s1.trans s2
      have b2 := b1.on s2
      have ev : (1 : Int) + ((m : Nat) : Int) = ((1 + m : Nat) : Int) := by omega
      rw [ev]
      have ef : (List.range' 1 (m + 1)).foldl (MFew.gStep opn clS Tb xs i j) none = MFew.gStep opn clS Tb xs i j ((List.range' 1 m).foldl (MFew.gStep opn clS Tb xs i j) none) (1 + m) := by
        rw [List.range'_1_concat, List.foldl_append]
        rfl
      rw [ef]
      generalize (List.range' 1 m).foldl (MFew.gStep opn clS Tb xs i j) none = B at b1 b2 ⊢
      have hp1 : 1 ≤ 1 + m := by omega
      have hp2 : (1 + m) * 2 ≤ j - i := by omega
      generalize 1 + m = p at hp1 hp2 ⊢
      walk_at "w"
      refine rd_rI ⟨by omega, by omega⟩ ?_
      have ed : ((j - i : Nat) : Int) / ((p : Nat) : Int) = (((j - i) / p : Nat) : Int) := (Int.natCast_ediv _ _).symm
      rw [ed]
      walk_at "w"
      refine rd_rI (show (0 : Int) < (p : Nat) by omega) ?_
      have em : ((j - i : Nat) : Int) % ((p : Nat) : Int) = (((j - i) % p : Nat) : Int) := (Int.natCast_emod _ _).symm
      rw [em]
      walk_at "w"
      have stay : MFew.cand opn clS Tb xs i j p = none → MFew.gStep opn clS Tb xs i j B p = B := fun e => by unfold MFew.gStep; rw [e]
      refine iteN (fun h1 => ?_) (fun h1 => ?_)
      · walk_at "w"
        rw [stay (if_pos (.inl fun z => h1 (by rw [z]; rfl)))]
        exact ⟨_, _, _, _, rfl, sC, b2⟩
      walk_at "w"
      refine iteP (fun h2 => ?_) (fun h2 => ?_)
      · walk_at "w"
        rw [stay (if_pos (.inr (by omega)))]
        exact ⟨_, _, _, _, rfl, sC, b2⟩
      walk_at "w"
      have sx2 := sC.seq sx
      refine rd_slL sx2 fun l1 hl1 => ?_
      have e1 : ((j : Nat) : Int) - ((p : Nat) : Int) = ((j - p : Nat) : Int) := by omega
      have e2 : ((i : Nat) : Int) + ((p : Nat) : Int) = ((i + p : Nat) : Int) := by omega
      rw [e1, cut_str (by omega)]
      have s3 := same_new (o := HO.lst ((MFew.sl xs i (j - p)).map V.str)) hl1
      have g3 : upd H2 l1 (HO.lst ((MFew.sl xs i (j - p)).map V.str)) l1 = _ := upd_same
      generalize upd H2 l1 (HO.lst ((MFew.sl xs i (j - p)).map V.str)) = H3 at s3 g3 ⊢
      walk_at "w"
      refine rd_slL (s3.seq sx2) fun l2 hl2 => ?_
      rw [e2, cut_str (by omega)]
      have s4 := same_new (o := HO.lst ((MFew.sl xs (i + p) j).map V.str)) hl2
      have g4 : upd H3 l2 (HO.lst ((MFew.sl xs (i + p) j).map V.str)) l2 = _ := upd_same
      generalize upd H3 l2 (HO.lst ((MFew.sl xs (i + p) j).map V.str)) = H4 at s4 g4 ⊢
      walk_at "w"
      refine eqS_list (SqL.of (s4 _ _ g3)) (SqL.of g4) ?_
      walk_at "w"
      have h1' : (j - i) % p = 0 := by omega
      have hc : ¬ ((j - i) % p ≠ 0 ∨ 60 < (j - i) / p) := by omega
      have sD := sC.trans (s3.trans s4)
      have b4 := b2.on (s3.trans s4)
      refine iteN (fun h3 => ?_) (fun h3 => ?_)
      · walk_at "w"
        rw [stay ((if_neg hc).trans (if_pos h3))]
        exact ⟨_, _, _, _, rfl, sD, b4⟩
      have hcand : MFew.cand opn clS Tb xs i j p = some (opn ((j - i) / p) :: (Tb i (i + p) ++ [clS])) := (if_neg hc).trans (if_neg fun z => z h3)
      obtain ⟨pw, ew, gw, lw⟩ := (ht i (i + p) (by omega) (by omega) (by omega) (by omega)).on sD
      walk_at "w"
      intro bt hbt
      rw [e2]
      have s5 := same_new (o := HO.tup [nV i, V.int ((i + p : Nat) : Int)]) hbt
      have g5 : upd H4 bt (HO.tup [nV i, V.int ((i + p : Nat) : Int)]) bt = some (.tup (([.inl ((i : Nat) : Int), .inl ((i + p : Nat) : Int)] : List Key).map kV)) := upd_same
      generalize upd H4 bt (HO.tup [nV i, V.int ((i + p : Nat) : Int)]) = H5 at s5 g5 ⊢
      have sE := sD.trans s5
      have b5 := b4.on s5
      have gw5 := s5 _ _ gw
      refine ⟨d, .ref pw, rfl, ew ▸ DGet.t (k := [.inl ((i : Nat) : Int), .inl ((i + p : Nat) : Int)]) (sE _ _ hd) g5, ?_⟩
      walk_at "w"
      have t60 : (j - i) / p ≤ 60 := by omega
      have new : ∀ (R : VK) σ', (∀ H9 l9, Same H5 H9 → H5 l9 = none → H9 l9 = some (.lst ((opn ((j - i) / p) :: (Tb i (i + p) ++ [clS])).map V.str)) → R (.ref l9) H9) → σ' = [some (.ref x), some (nV i), some (nV j), some (.ref d), some (nV (j - i)), some v, some (.int (p : Nat)), some (.int ((j - i) / p : Nat)), some (.ref pw)] →
          tOp (rCatS K) (tOp (rCatS K) (tLst (tCons (tOp (fun x y H Q => ∃ i j, x = V.str i ∧ y = V.str j ∧ i.length + j.length ≤ sizeLine ∧ Q (V.str (i ++ j)) H) (tCall sp_number_text [] E0 (tCons (tVar 7) tNil)) (tC (V.str (Str.ofString "(")))) tNil)) (tVar 8)) (tLst (tCons (tC (V.str (Str.ofString ")"))) tNil)) σ' H5 R := by
        rintro R σ' kk rfl
        walk_at "w"
        refine ⟨(j - i) / p, rfl, by omega, ?_⟩
        walk_at "w"
        refine ⟨_, _, rfl, rfl, ?_, ?_⟩
        · have := MN.num_len (i := (((j - i) / p : Nat) : Int)) (Int.natCast_nonneg _) (by have := Int.ofNat_le.mpr t60; exact Int.lt_of_le_of_lt this (by decide))
          exact Nat.le_trans (Nat.add_le_add_right this _) (by decide)
        walk_at "w"
        intro q1 hq1
        have s6 := same_new (o := HO.lst [V.str (Str.ofString (toString (((j - i) / p : Nat) : Int)) ++ Str.ofString "(")]) hq1
        have g6 : upd H5 q1 (HO.lst [V.str (Str.ofString (toString (((j - i) / p : Nat) : Int)) ++ Str.ofString "(")]) q1 = some (.lst ([opn ((j - i) / p)].map V.str)) := upd_same
        generalize upd H5 q1 (HO.lst [V.str (Str.ofString (toString (((j - i) / p : Nat) : Int)) ++ Str.ofString "(")]) = H6 at s6 g6 ⊢
        walk_at "w"
        refine rd_cat (SqL.of g6) (SqL.of (s6 _ _ gw5)) (by rw [List.length_map, List.length_map]; simp; omega) fun q2 hq2 => ?_
        rw [← List.map_append]
        have s7 := same_new (o := HO.lst (([opn ((j - i) / p)] ++ Tb i (i + p)).map V.str)) hq2
        have g7 : upd H6 q2 (HO.lst (([opn ((j - i) / p)] ++ Tb i (i + p)).map V.str)) q2 = _ := upd_same
        generalize upd H6 q2 (HO.lst (([opn ((j - i) / p)] ++ Tb i (i + p)).map V.str)) = H7 at s7 g7 ⊢
        walk_at "w"
        intro q3 hq3
        have s8 := same_new (o := HO.lst [V.str (Str.ofString ")")]) hq3
        have g8 : upd H7 q3 (HO.lst [V.str (Str.ofString ")")]) q3 = some (.lst ([clS].map V.str)) := upd_same
        generalize upd H7 q3 (HO.lst [V.str (Str.ofString ")")]) = H8 at s8 g8 ⊢
        walk_at "w"
        refine rd_cat (SqL.of (s8 _ _ g7)) (SqL.of g8) (by rw [List.length_map, List.length_map]; simp; omega) fun q4 hq4 => ?_
        rw [← List.map_append]
        have s9 := same_new (o := HO.lst ((([opn ((j - i) / p)] ++ Tb i (i + p)) ++ [clS]).map V.str)) hq4
        exact kk _ q4 (s6.trans (s7.trans (s8.trans s9))) (s6.free (s7.free (s8.free hq4))) upd_same
      have lnew : (opn ((j - i) / p) :: (Tb i (i + p) ++ [clS])).length = (Tb i (i + p)).length + 2 := by simp
      rcases b5 with ⟨rfl, rfl⟩ | ⟨R, pR, rfl, rfl, gR, fR, lR⟩
      · have eg : MFew.gStep opn clS Tb xs i j none p = some (opn ((j - i) / p) :: (Tb i (i + p) ++ [clS])) := by unfold MFew.gStep; rw [hcand]; rfl
        rw [eg]
        refine ⟨rfl, _, rfl, iteP (fun _ => ?_) fun z => absurd rfl z⟩
        refine iteT ?_
        refine rd_asg ?_
        refine new _ _ (fun H9 l9 s9 f9 g9 => ?_) rfl
        walk_at "w"
        exact ⟨_, _, _, _, rfl, sE.trans s9, .inr ⟨_, l9, rfl, rfl, g9, sE.free f9, by rw [lnew]; omega⟩⟩
      · have eg : MFew.gStep opn clS Tb xs i j (some R) p = if (Tb i (i + p)).length + 2 < R.length then some (opn ((j - i) / p) :: (Tb i (i + p) ++ [clS])) else some R := by unfold MFew.gStep; rw [hcand, ← lnew]; rfl
        rw [eg]
        refine ⟨rfl, _, rfl, iteP (fun z => by cases z) fun _ => ?_⟩
        walk_at "w"
        refine rd_lenL (SqL.of gw5) ?_
        walk_at "w"
        refine rd_lenL (SqL.of gR) ?_
        walk_at "w"
        rw [List.length_map, List.length_map]
        refine iteP (fun h4 => ?_) (fun h4 => ?_)
        · rw [if_pos (by omega)]
          refine rd_asg ?_
          refine new _ _ (fun H9 l9 s9 f9 g9 => ?_) rfl
          walk_at "w"
          exact ⟨_, _, _, _, rfl, sE.trans s9, .inr ⟨_, l9, rfl, rfl, g9, sE.free f9, by rw [lnew]; omega⟩⟩
        · rw [if_neg (by omega)]
          walk_at "w"
          exact ⟨_, _, _, _, rfl, sE, .inr ⟨R, pR, rfl, rfl, gR, fR, lR⟩⟩
    · rintro σ H1 ⟨v, x6, x7, x8, rfl, s1, b1⟩
      walk_at "w"
      exact k H1 v s1 b1
noncomputable def sp_fewest_words (K : PySem.W.Frag) : Sp := fun vs H Q _ => ∃ (x d : Addr) (xs : List Str) (i j : Nat) (kvs : List (List Key × V)) (T : Nat → Nat → List Str), vs = [.ref x, nV i, nV j, .ref d] ∧ SqL K H x (xs.map V.str) ∧ i < j ∧ j ≤ xs.length ∧ xs.length ≤ 60 ∧ H d = some (.dT kvs) ∧
  (∀ a b, i ≤ a → a < b → b ≤ j → b - a < j - i → LookT H kvs T a b) ∧ ∀ H' p, Same H H' → H p = none → H' p = some (.lst ((MFew.fewW opn clS T xs i j).map V.str)) → Q (.ref p) H'
noncomputable abbrev s_fewest_words : Stmt := top 20
theorem sc_fewest_words : FnScope ["items", "first", "behind", "told", "best", "middle", "ahead", "rest"] ["items", "first", "behind", "told"] (defScope s_fewest_words) := ⟨rfl, rfl, rfl, by decide +kernel, rfl, by decide +kernel, by decide +kernel⟩
theorem ok_fewest_words {f : Addr} {fd : FuncData} (F : Fun K "fewest_words" "fewest_words" s_fewest_words f fd) (T : Txt K mg c) (c_as_group : CallF P w K mg base "as_group" 2 ["items", "first", "behind", "told"] (sp_as_group K)) : FnOk P w K mg base CX0 3 f fd ["items", "first", "behind", "told"] (sp_fewest_words K) := by
  refine F.ok sc_fewest_words (fun vs H Q E h => ?_) (fun cdv A outer s H vs Q E hr h => ?_)
  · obtain ⟨x, d, xs, i, j, kvs, T, rfl, _⟩ := h
    rfl
  · obtain ⟨x, d, xs, i, j, kvs, Tb, rfl, sx, hij, hj, h60, hd, ht, k⟩ := h
    have hu := hr.units0
    have hu1 := hr.units1
    refine ⟨_, (pss_cons (ps_if (pt_cmpR op_eq (pe_op op_sub (pv 2) (pv 1)) pe_int (nomark _)) (pss_one (ps_ret (pe_lst (pa_cons (pe_ix (k_ixl (K := K)) (pv 0) (pv 1) (fun _ _ => rfl)) pa_nil)))) pss_nil)
      (pss_cons (ps_set (i := 4) sc_fewest_words.nd rfl (Or.inl rfl) (pe_callF c_as_group hr (pa_cons (pv 0) (pa_cons (pv 1) (pa_cons (pv 2) (pa_cons (pv 3) pa_nil))))))
      (pss_cons (ps_for PassesOwn.never rfl (pi_range2 rfl (T.own _ (by decide)) (pa_cons (pe_op op_add (pv 1) pe_int) (pa_cons (pv 2) pa_nil))) (pg_name (i := 5) sc_fewest_words.nd rfl (Or.inl rfl)) (pss_cons (ps_set (i := 6) sc_fewest_words.nd rfl (Or.inl rfl) (pe_dget hu1 (pv 3) (pe_tup (pa_cons (pv 1) (pa_cons (pv 5) pa_nil))) (fun _ _ => rfl)))
      (pss_cons (ps_set (i := 7) sc_fewest_words.nd rfl (Or.inl rfl) (pe_dget hu1 (pv 3) (pe_tup (pa_cons (pv 5) (pa_cons (pv 2) pa_nil))) (fun _ _ => rfl)))
      (pss_one (ps_if (PW.pt (pw_or (pt_cmpR op_isN (pv 4) pe_non (nomark _)) (pw_or1 (pt_cmpR op_lt (pe_op op_add (pe_callB (k_len (K := K)) rfl (T.own _ (by decide)) boot_len (pa_cons (pv 6) pa_nil)) (pe_callB (k_len (K := K)) rfl (T.own _ (by decide)) boot_len (pa_cons (pv 7) pa_nil))) (pe_callB (k_len (K := K)) rfl (T.own _ (by decide)) boot_len (pa_cons (pv 4) pa_nil)) (nomark _))))) (pss_one (ps_set (i := 4) sc_fewest_words.nd rfl (Or.inl rfl) (pe_op (k_cat (K := K)) (pv 6) (pv 7)))) pss_nil)))))
      (pss_one (ps_ret (pv 4)))))), ?_⟩
    walk_at "w"
    have eS : ((j : Nat) : Int) - ((i : Nat) : Int) = ((j - i : Nat) : Int) := by omega
    rw [eS]
    refine iteP (fun h1 => ?_) (fun h1 => ?_)
    · have h1 : j - i = 1 := by omega
      walk_at "w"
      have ei : atI (xs.map V.str) ((i : Nat) : Int) = some (.str (xs[i]'(by omega))) := by
        unfold atI ixN
        rw [if_pos (by omega), if_pos (by rw [List.length_map]; omega)]
        simp only [Option.bind_some, Int.toNat_natCast]
        rw [List.getElem?_map, List.getElem?_eq_getElem (by omega)]
        rfl
      refine rd_ixL sx ei ?_
      walk_at "w"
      intro q hq
      refine k _ q (same_new hq) hq ?_
      rw [upd_same]
      have : MFew.fewW opn clS Tb xs i j = MFew.sl xs i j := if_pos h1
      have e3 : MFew.sl xs (i + 1) j = [] := by unfold MFew.sl; rw [show j - (i + 1) = 0 by omega]; rfl
      rw [this, MFew.sl_cons hij hj, e3]
      rfl
    have h1 : ¬ j - i = 1 := by omega
    walk_at "w"
    refine ⟨x, d, xs, i, j, kvs, Tb, rfl, sx, hij, hj, h60, hd, ht, fun H1 v0 s1 b0 => ?_⟩
    walk_at "w"
    have e1 : ((i : Nat) : Int) + 1 = ((i + 1 : Nat) : Int) := by omega
    rw [e1]
    have eN : (((j : Nat) : Int) - ((i + 1 : Nat) : Int)).toNat = j - i - 1 := by omega
    refine ⟨_, _, rfl, ⟨by omega, by omega, by omega, by omega⟩, ?_⟩
    rw [eN]
    refine for_src (fs_range (n := j - i - 1)) (fun m σ H3 => ∃ v x5 x6 x7, σ = [some (.ref x), some (nV i), some (nV j), some (.ref d), some v, x5, x6, x7] ∧ Same H1 H3 ∧ BestV H H3 ((List.range' (i + 1) m).foldl (fun b m => MFew.better b (Tb i m ++ Tb m j)) (MFew.asGroup opn clS Tb xs i j)) v) ⟨_, _, _, _, rfl, Same.refl _, b0⟩ (fun m σ H3 ⟨_, _, _, _, _, s, _⟩ => s) ?_ ?_
    · rintro m σ H2 H3 hm ⟨v, x5, x6, x7, rfl, s2, b2⟩ s3
      have sC := s1.trans (s2.trans s3)
      have b3 := b2.on s3
      have ev : ((i + 1 : Nat) : Int) + ((m : Nat) : Int) = ((i + 1 + m : Nat) : Int) := by omega
      rw [ev]
      have ef : (List.range' (i + 1) (m + 1)).foldl (fun b m => MFew.better b (Tb i m ++ Tb m j)) (MFew.asGroup opn clS Tb xs i j) = MFew.better ((List.range' (i + 1) m).foldl (fun b m => MFew.better b (Tb i m ++ Tb m j)) (MFew.asGroup opn clS Tb xs i j)) (Tb i (i + 1 + m) ++ Tb (i + 1 + m) j) := by
        rw [List.range'_1_concat, List.foldl_append]
        rfl
      rw [ef]
      generalize (List.range' (i + 1) m).foldl (fun b m => MFew.better b (Tb i m ++ Tb m j)) (MFew.asGroup opn clS Tb xs i j) = B at b2 b3 ⊢
      have hp1 : i < i + 1 + m := by omega
      have hp2 : i + 1 + m < j := by omega
      generalize i + 1 + m = p at hp1 hp2 ⊢
      obtain ⟨pa, ea, ga, la⟩ := (ht i p (by omega) (by omega) (by omega) (by omega)).on sC
      obtain ⟨pb, eb, gb, lb⟩ := (ht p j (by omega) (by omega) (by omega) (by omega)).on sC
      walk_at "w"
      intro b1 hb1
      have s4 := same_new (o := HO.tup [nV i, V.int (p : Nat)]) hb1
      have g4 : upd H3 b1 (HO.tup [nV i, V.int (p : Nat)]) b1 = some (.tup (([.inl ((i : Nat) : Int), .inl ((p : Nat) : Int)] : List Key).map kV)) := upd_same
      generalize upd H3 b1 (HO.tup [nV i, V.int (p : Nat)]) = H4 at s4 g4 ⊢
      refine ⟨d, .ref pa, rfl, ea ▸ DGet.t (k := [.inl ((i : Nat) : Int), .inl ((p : Nat) : Int)]) (s4 _ _ (sC _ _ hd)) g4, ?_⟩
      walk_at "w"
      intro b5 hb5
      have s5 := same_new (o := HO.tup [V.int (p : Nat), nV j]) hb5
      have g5 : upd H4 b5 (HO.tup [V.int (p : Nat), nV j]) b5 = some (.tup (([.inl ((p : Nat) : Int), .inl ((j : Nat) : Int)] : List Key).map kV)) := upd_same
      generalize upd H4 b5 (HO.tup [V.int (p : Nat), nV j]) = H5 at s5 g5 ⊢
      refine ⟨d, .ref pb, rfl, eb ▸ DGet.t (k := [.inl ((p : Nat) : Int), .inl ((j : Nat) : Int)]) (s5 _ _ (s4 _ _ (sC _ _ hd))) g5, ?_⟩
      have s45 := s4.trans s5
      have sE := sC.trans s45
      have bE := b3.on s45
      have ga5 := s45 _ _ ga
      have gb5 := s45 _ _ gb
      walk_at "w"
      rcases bE with ⟨rfl, rfl⟩ | ⟨R, pR, rfl, rfl, gR, fR, lR⟩
      · refine ⟨rfl, _, rfl, iteP (fun _ => ?_) fun z => absurd rfl z⟩
        walk_at "w"
        refine rd_cat (SqL.of ga5) (SqL.of gb5) (by rw [List.length_map, List.length_map]; omega) fun q hq => ?_
        rw [← List.map_append]
        have s6 := same_new (o := HO.lst ((Tb i p ++ Tb p j).map V.str)) hq
        walk_at "w"
        exact ⟨_, _, _, _, rfl, s2.trans (s3.trans (s45.trans s6)), .inr ⟨_, q, rfl, rfl, upd_same, sE.free hq, by rw [List.length_append]; omega⟩⟩
      · have eg : MFew.better (some R) (Tb i p ++ Tb p j) = if (Tb i p).length + (Tb p j).length < R.length then some (Tb i p ++ Tb p j) else some R := by rw [← List.length_append]; rfl
        rw [eg]
        refine ⟨rfl, _, rfl, iteP (fun z => by cases z) fun _ => ?_⟩
        walk_at "w"
        refine rd_lenL (SqL.of ga5) ?_
        walk_at "w"
        refine rd_lenL (SqL.of gb5) ?_
        walk_at "w"
        refine rd_lenL (SqL.of gR) ?_
        walk_at "w"
        rw [List.length_map, List.length_map, List.length_map]
        refine iteP (fun h4 => ?_) (fun h4 => ?_)
        · rw [if_pos (by omega)]
          walk_at "w"
          refine rd_cat (SqL.of ga5) (SqL.of gb5) (by rw [List.length_map, List.length_map]; omega) fun q hq => ?_
          rw [← List.map_append]
          have s6 := same_new (o := HO.lst ((Tb i p ++ Tb p j).map V.str)) hq
          walk_at "w"
          exact ⟨_, _, _, _, rfl, s2.trans (s3.trans (s45.trans s6)), .inr ⟨_, q, rfl, rfl, upd_same, sE.free hq, by rw [List.length_append]; omega⟩⟩
        · rw [if_neg (by omega)]
          walk_at "w"
          exact ⟨_, _, _, _, rfl, s2.trans (s3.trans s45), .inr ⟨R, pR, rfl, rfl, gR, fR, lR⟩⟩
    · rintro σ H2 ⟨v, x5, x6, x7, rfl, s2, b2⟩
      walk_at "w"
      have ew : MFew.fewW opn clS Tb xs i j = (MFew.mids opn clS Tb xs i j).getD [] := if_neg h1
      have b2 : BestV H H2 (MFew.mids opn clS Tb xs i j) v := b2
      rcases b2 with ⟨e, rfl⟩ | ⟨R, pR, e, rfl, gR, fR, lR⟩
      · exfalso
        have : MFew.mids opn clS Tb xs i j = ((List.range' (i + 1) (j - i - 1)).map fun m => Tb i m ++ Tb m j).foldl MFew.better (MFew.asGroup opn clS Tb xs i j) := MFew.mfold _ _
        obtain ⟨c, hc⟩ := MFew.better_some ((List.range' (i + 1) (j - i - 1)).map fun m => Tb i m ++ Tb m j) (MFew.asGroup opn clS Tb xs i j) (.inr fun z => by
          have := congrArg List.length z
          rw [List.length_map, List.length_range'] at this
          simp at this
          omega)
        rw [← this, e] at hc
        cases hc
      · refine k H2 pR (s1.trans s2) fR ?_
        rw [ew, e]
        exact gR
end
end K03
open L2
namespace K03
open PySem L2 PySem.Spec PyProof.Rows
seal L2.PE L2.PT L2.PW L2.PA L2.PS L2.PSs L2.PI L2.PG L2.PTs L2.PGs
section
variable {P : Program} {w : World} {K : PySem.W.Frag} {mg : Str → Option Value} {base : Heap} {c : Cs}
theorem W_len {xs : List Str} {i j : Nat} (h60 : xs.length ≤ 60) (h : i < j) (hj : j ≤ xs.length) : (MFew.W opn clS xs i j).length ≤ 1000 := by
  have := (MFew.W_ok (opn := opn) (cls := clS) (plain := fun _ => True) (fun _ _ => trivial) h60 xs.length i j h hj (by omega)).2 _ (MFew.cost_len _)
  rw [MFew.sl_len hj] at this
  omega
noncomputable def WAt (H1 H : Hp) (kvs : List (List Key × V)) (xs : List Str) (a b : Nat) : Prop := ∃ p, valV kvs [.inl (a : Nat), .inl (b : Nat)] = some (.ref p) ∧ H p = some (.lst ((MFew.W opn clS xs a b).map V.str)) ∧ H1 p = none
theorem key_eq {a b c d : Nat} : (([.inl (a : Nat), .inl (b : Nat)] : List Key) = [.inl (c : Nat), .inl (d : Nat)]) ↔ a = c ∧ b = d := by
  constructor
  · intro h
    injection h with h1 h2
    injection h2 with h2 _
    injection h1 with h1
    injection h2 with h2
    omega
  · rintro ⟨rfl, rfl⟩
    rfl
noncomputable def sp_gathered (K : PySem.W.Frag) : Sp := fun vs H Q _ => ∃ (x : Addr) (xs : List Str), vs = [.ref x] ∧ SqL K H x (xs.map V.str) ∧ xs ≠ [] ∧ xs.length ≤ 60 ∧ ∀ H' p, Same H H' → H p = none → H' p = some (.lst ((MFew.W opn clS xs 0 xs.length).map V.str)) → Q (.ref p) H'
noncomputable abbrev s_gathered : Stmt := top 21
theorem sc_gathered : FnScope ["items", "row", "told", "length", "first"] ["items"] (defScope s_gathered) := ⟨rfl, rfl, rfl, by decide +kernel, rfl, by decide +kernel, by decide +kernel⟩
theorem ok_gathered {f : Addr} {fd : FuncData} (F : Fun K "gathered" "gathered" s_gathered f fd) (T : Txt K mg c) (c_fewest_words : CallF P w K mg base "fewest_words" 3 ["items", "first", "behind", "told"] (sp_fewest_words K)) : FnOk P w K mg base CX0 4 f fd ["items"] (sp_gathered K) := by
  refine F.ok sc_gathered (fun vs H Q E h => ?_) (fun cdv A outer s H vs Q E hr h => ?_)
  · obtain ⟨x, xs, rfl, _⟩ := h
    rfl
  · obtain ⟨x, xs, rfl, sx, hne, h60, k⟩ := h
    have hu := hr.units0
    have hu1 := hr.units1
    have hn : 0 < xs.length := List.length_pos_iff.mpr hne
    refine ⟨_, (pss_cons (ps_set (i := 1) sc_gathered.nd rfl (Or.inl rfl) (pe_callTy (k_list (K := K)) rfl (T.own _ (by decide)) boot_list' (pa_cons (pv 0) pa_nil)))
      (pss_cons (ps_set (i := 2) sc_gathered.nd rfl (Or.inl rfl) (pe_dispT hu1 (pe_tup (pa_cons pe_int (pa_cons pe_int pa_nil))) (pe_lst pa_nil)))
      (pss_cons (ps_for PassesOwn.never rfl (pi_range2 rfl (T.own _ (by decide)) (pa_cons pe_int (pa_cons (pe_op op_add (pe_callB (k_len (K := K)) rfl (T.own _ (by decide)) boot_len (pa_cons (pv 1) pa_nil)) pe_int) pa_nil))) (pg_name (i := 3) sc_gathered.nd rfl (Or.inl rfl)) (pss_one (ps_for PassesOwn.never rfl (pi_range1 rfl (T.own _ (by decide)) (pa_cons (pe_op op_add (pe_op op_sub (pe_callB (k_len (K := K)) rfl (T.own _ (by decide)) boot_len (pa_cons (pv 1) pa_nil)) (pv 3)) pe_int) pa_nil)) (pg_name (i := 4) sc_gathered.nd rfl (Or.inl rfl)) (pss_one (ps_dput hu1 (pv 2) (pe_tup (pa_cons (pv 4) (pa_cons (pe_op op_add (pv 4) (pv 3)) pa_nil))) (pe_callF c_fewest_words hr (pa_cons (pv 1) (pa_cons (pv 4) (pa_cons (pe_op op_add (pv 4) (pv 3)) (pa_cons (pv 2) pa_nil))))) rfl)))))
      (pss_one (ps_ret (pe_dget hu1 (pv 2) (pe_tup (pa_cons pe_int (pa_cons (pe_callB (k_len (K := K)) rfl (T.own _ (by decide)) boot_len (pa_cons (pv 1) pa_nil)) pa_nil))) (fun _ _ => rfl))))))), ?_⟩
    walk_at "w"
    refine rd_listOf sx fun r hr0 => ?_
    have s1 := same_new (o := HO.lst (xs.map V.str)) hr0
    have g1 : upd H r (HO.lst (xs.map V.str)) r = _ := upd_same
    generalize upd H r (HO.lst (xs.map V.str)) = H1 at s1 g1 ⊢
    walk_at "w"
    intro d hd0
    have s2 := same_new (o := HO.dT []) hd0
    have g2 : upd H1 d (HO.dT []) d = _ := upd_same
    generalize upd H1 d (HO.dT []) = H2 at s2 g2 ⊢
    refine rd_pcons ?_
    walk_at "w"
    intro b hb
    have s3 := same_new (o := HO.tup [V.int 0, V.int 0]) hb
    have g3 : upd H2 b (HO.tup [V.int 0, V.int 0]) b = some (.tup (([.inl (0 : Int), .inl (0 : Int)] : List Key).map kV)) := upd_same
    generalize upd H2 b (HO.tup [V.int 0, V.int 0]) = H3 at s3 g3 ⊢
    walk_at "w"
    intro q hq
    have s4 := same_new (o := HO.lst []) hq
    generalize upd H3 q (HO.lst []) = H4 at s4 ⊢
    walk_at "w"
    refine ⟨_, _, rfl, b, _, rfl, s4 _ _ g3, s4 _ _ (s3 _ _ g2), ?_⟩
    have f5 : ∀ y o, y ≠ d → H4 y = some o → upd H4 d (HO.dT [([.inl (0 : Int), .inl (0 : Int)], V.ref q)]) y = some o := fun y o hy e => by rw [upd_ne hy]; exact e
    have g5 : upd H4 d (HO.dT [([.inl (0 : Int), .inl (0 : Int)], V.ref q)]) d = _ := upd_same
    generalize upd H4 d (HO.dT [([.inl (0 : Int), .inl (0 : Int)], V.ref q)]) = H5 at f5 g5 ⊢
    have s15 : Same H1 H5 := fun y o e => f5 y o (fun z => by rw [z, hd0] at e; cases e) (s4 _ _ (s3 _ _ (s2 _ _ e)))
    walk_at "w"
    refine rd_lenL (SqL.of (s15 _ _ g1)) ?_
    walk_at "w"
    rw [List.length_map]
    have eN : (((xs.length : Nat) : Int) + 1 - 1).toNat = xs.length := by omega
    refine ⟨_, _, rfl, ⟨by decide, by decide, by omega, by omega⟩, ?_⟩
    rw [eN]
    refine for_srcW (H0 := H1) (fs_range (n := xs.length)) (fun m σ H6 => ∃ x3 x4 kvs, σ = [some (.ref x), some (.ref r), some (.ref d), x3, x4] ∧ Same H1 H6 ∧ H6 d = some (.dT kvs) ∧ kvs.length ≤ 1 + 100 * m ∧ ∀ a b, a < b → b ≤ xs.length → b - a ≤ m → WAt H1 H6 kvs xs a b) ⟨_, _, _, rfl, s15, g5, Nat.le_refl 1, fun a b h1 h2 h3 => by omega⟩ (fun m σ H3 ⟨_, _, _, _, s, _⟩ => s) ?_ ?_
    · rintro m σ H6 H7 hm ⟨x3, x4, kvs, rfl, s6, hd6, lk, w6⟩ s7
      have ev : (1 : Int) + ((m : Nat) : Int) = ((m + 1 : Nat) : Int) := by omega
      rw [ev]
      walk_at "w"
      refine rd_lenL (SqL.of ((s6.trans s7) _ _ g1)) ?_
      walk_at "w"
      rw [List.length_map]
      have e2 : ((xs.length : Nat) : Int) - ((m + 1 : Nat) : Int) + 1 = ((xs.length - m : Nat) : Int) := by omega
      rw [e2]
      have s17 := s6.trans s7
      refine ⟨_, rfl, by omega, by omega, for_srcW (H0 := H1) (fs_range0 (n := xs.length - m)) (fun p σ H8 => ∃ x4 kv8, σ = [some (.ref x), some (.ref r), some (.ref d), some (nV (m + 1)), x4] ∧ Same H1 H8 ∧ H8 d = some (.dT kv8) ∧ kv8.length ≤ 1 + 100 * m + p ∧ ∀ a b, a < b → b ≤ xs.length → (b - a ≤ m ∨ (b - a = m + 1 ∧ a < p)) → WAt H1 H8 kv8 xs a b) ⟨_, kvs, rfl, s17, s7 _ _ hd6, by omega, fun a b h1 h2 h3 => ?_⟩ (fun m σ H3 ⟨_, _, _, s, _⟩ => s) ?_ ?_⟩
      · obtain ⟨p, q1, q2, q3⟩ := w6 a b h1 h2 (by omega)
        exact ⟨p, q1, s7 _ _ q2, q3⟩
      · rintro p σ H8 H9 hp ⟨x4, kv8, rfl, s8, hd8, lk8, w8⟩ s9
        have s19 := s8.trans s9
        have ep : ((p : Nat) : Int) + ((m + 1 : Nat) : Int) = ((p + (m + 1) : Nat) : Int) := by omega
        walk_at "w"
        rw [ep]
        refine ⟨r, d, xs, p, p + (m + 1), kv8, MFew.W opn clS xs, rfl, SqL.of (s19 _ _ g1), by omega, by omega, h60, s9 _ _ hd8, fun a b h1 h2 h3 h4 => ?_, fun H10 l s10 hl gl => ?_⟩
        · obtain ⟨p', q1, q2, q3⟩ := w8 a b h2 (by omega) (.inl (by omega))
          exact ⟨p', q1, s9 _ _ q2, W_len h60 h2 (by omega)⟩
        rw [← MFew.W_step (by omega)] at gl
        have s110 := s19.trans s10
        have hd10 := s10 _ _ (s9 _ _ hd8)
        walk_at "w"
        intro b hb
        rw [ep]
        have s11 := same_new (o := HO.tup [V.int ((p : Nat) : Int), V.int ((p + (m + 1) : Nat) : Int)]) hb
        have g11 : upd H10 b (HO.tup [V.int ((p : Nat) : Int), V.int ((p + (m + 1) : Nat) : Int)]) b = some (.tup (([.inl ((p : Nat) : Int), .inl ((p + (m + 1) : Nat) : Int)] : List Key).map kV)) := upd_same
        generalize upd H10 b (HO.tup [V.int ((p : Nat) : Int), V.int ((p + (m + 1) : Nat) : Int)]) = H11 at s11 g11 ⊢
        refine ⟨d, _, rfl, DPut.t (k := [.inl ((p : Nat) : Int), .inl ((p + (m + 1) : Nat) : Int)]) (s11 _ _ hd10) g11 (Nat.lt_of_le_of_lt (show kv8.length ≤ 100000 by omega) (by decide)), ?_⟩
        have nd : ∀ y xs', H11 y = some (.lst xs') → y ≠ d := fun y xs' e z => by rw [z, s11 _ _ hd10] at e; cases e
        have f12 : ∀ y o, y ≠ d → H11 y = some o → upd H11 d (HO.dT (putK kv8 [.inl ((p : Nat) : Int), .inl ((p + (m + 1) : Nat) : Int)] (V.ref l))) y = some o := fun y o hy e => by rw [upd_ne hy]; exact e
        refine ⟨_, _, rfl, fun y o e => f12 y o (fun z => by rw [z, hd0] at e; cases e) (s11 _ _ (s110 _ _ e)), upd_same, ?_, fun a b h1 h2 h3 => ?_⟩
        · have := length_putK kv8 [.inl ((p : Nat) : Int), .inl ((p + (m + 1) : Nat) : Int)] (V.ref l)
          omega
        · unfold WAt
          rw [valV_put]
          by_cases hk : a = p ∧ b = p + (m + 1)
          · rw [if_pos (key_eq.mpr hk)]
            refine ⟨l, rfl, ?_, s19.free hl⟩
            rw [hk.1, hk.2]
            exact f12 l _ (nd l _ (s11 _ _ gl)) (s11 _ _ gl)
          · rw [if_neg fun z => hk (key_eq.mp z)]
            obtain ⟨p', q1, q2, q3⟩ := w8 a b h1 h2 (by omega)
            have q2 := s11 _ _ (s10 _ _ (s9 _ _ q2))
            exact ⟨p', q1, f12 p' _ (nd p' _ q2) q2, q3⟩
      · rintro σ H8 ⟨x4, kv8, rfl, s8, hd8, lk8, w8⟩
        exact ⟨_, _, kv8, rfl, s8, hd8, by omega, fun a b h1 h2 h3 => w8 a b h1 h2 (by omega)⟩
    · rintro σ H6 ⟨x3, x4, kvs, rfl, s6, hd6, lk, w6⟩
      obtain ⟨p, q1, q2, q3⟩ := w6 0 xs.length hn (Nat.le_refl _) (by omega)
      walk_at "w"
      refine rd_lenL (SqL.of (s6 _ _ g1)) ?_
      walk_at "w"
      intro b hb
      rw [List.length_map]
      have s7 := same_new (o := HO.tup [V.int 0, V.int ((xs.length : Nat) : Int)]) hb
      have g7 : upd H6 b (HO.tup [V.int 0, V.int ((xs.length : Nat) : Int)]) b = some (.tup (([.inl ((0 : Nat) : Int), .inl ((xs.length : Nat) : Int)] : List Key).map kV)) := upd_same
      generalize upd H6 b (HO.tup [V.int 0, V.int ((xs.length : Nat) : Int)]) = H7 at s7 g7 ⊢
      refine ⟨d, .ref p, rfl, q1 ▸ DGet.t (k := [.inl ((0 : Nat) : Int), .inl ((xs.length : Nat) : Int)]) (s7 _ _ hd6) g7, ?_⟩
      exact k H7 p (s1.trans (s6.trans s7)) (s1.free q3) (s7 _ _ q2)
end
end K03
open L2
namespace K03
open PySem L2 PySem.Spec PyProof.Rows
seal L2.PE L2.PT L2.PW L2.PA L2.PS L2.PSs L2.PI L2.PG L2.PTs L2.PGs
section
variable {P : Program} {w : World} {K : PySem.W.Frag} {mg : Str → Option Value} {base : Heap} {c : Cs}
noncomputable def mixV (x k : Int) : Int := (x % 1000000007 + 7919 * k + 13) * (x % 1000000007 + 7919 * k + 13) % 1000000007 * 48271 % 2147483647
noncomputable def sp__law_mixed : Sp := fun vs H Q _ => ∃ x k : Int, vs = [.int x, .int k] ∧ (0 ≤ k ∧ k ≤ 1000) ∧ Q (.int (mixV x k)) H
noncomputable abbrev s__law_mixed : Stmt := top 23
theorem sc__law_mixed : FnScope ["_law_cell", "_law_k"] ["_law_cell", "_law_k"] (defScope s__law_mixed) := ⟨rfl, rfl, rfl, by decide +kernel, rfl, by decide +kernel, by decide +kernel⟩
theorem ok__law_mixed {f : Addr} {fd : FuncData} (F : Fun K "_law_mixed" "_law_mixed" s__law_mixed f fd) (T : Txt K mg c) : FnOk P w K mg base CX0 1 f fd ["_law_cell", "_law_k"] sp__law_mixed := by
  refine F.ok sc__law_mixed (fun vs H Q E h => ?_) (fun cdv A outer s H vs Q E hr h => ?_)
  · obtain ⟨x, k, rfl, _⟩ := h
    rfl
  · obtain ⟨x, k, rfl, hk, q⟩ := h
    refine ⟨_, (pss_cons (ps_set (i := 0) sc__law_mixed.nd rfl (Or.inl rfl) (pe_op op_add (pe_op op_add (pe_op op_mod (pv 0) pe_int) (pe_op op_mul pe_int (pv 1))) pe_int))
      (pss_one (ps_ret (pe_op op_mod (pe_op op_mul (pe_op op_mod (pe_op op_mul (pv 0) (pv 0)) pe_int) pe_int) pe_int)))), ?_⟩
    have b1 := Int.emod_nonneg x (show (1000000007 : Int) ≠ 0 by decide)
    have b2 := Int.emod_lt_of_pos x (show (0 : Int) < 1000000007 by decide)
    walk_at "w"
    refine rd_rI (by decide) ?_
    walk_at "w"
    refine rd_rI (.inl ⟨by decide, by decide⟩) ?_
    walk_at "w"
    refine rd_rI (.inl ⟨?_, ?_⟩) ?_
    · show -(2 ^ 64) < x % 1000000007 + 7919 * k + 13
      omega
    · show x % 1000000007 + 7919 * k + 13 < 2 ^ 64
      omega
    walk_at "w"
    refine rd_rI (by decide) ?_
    walk_at "w"
    refine rd_rI (.inr ⟨by decide, by decide⟩) ?_
    walk_at "w"
    refine rd_rI (by decide) ?_
    exact q
noncomputable abbrev goodI : List Str := ["1", "2", "3", "1+2", "-", "4"]
theorem modN (x : Int) {m : Nat} (h : 0 < m) : ∃ s : Nat, x % (m : Nat) = (s : Nat) ∧ s < m := by
  have h0 := Int.emod_nonneg x (show ((m : Nat) : Int) ≠ 0 by omega)
  have h1 := Int.emod_lt_of_pos x (show (0 : Int) < (m : Nat) by omega)
  exact ⟨(x % (m : Nat)).toNat, by omega, by omega⟩
theorem atI_nat {xs : List V} {s : Nat} (h : s < xs.length) : atI xs ((s : Nat) : Int) = some (xs.getD s .non) := by
  unfold atI ixN
  rw [if_pos (by omega), if_pos (by omega)]
  simp only [Option.bind_some, Int.toNat_natCast]
  rw [List.getD_eq_getElem?_getD, List.getElem?_eq_getElem h]
  rfl
theorem ixN_nat {n s : Nat} (h : s < n) : ixN n ((s : Nat) : Int) = some s := by
  unfold ixN
  rw [if_pos (by omega), if_pos (by omega), Int.toNat_natCast]
noncomputable def sp__law_items (K : PySem.W.Frag) : Sp := fun vs H Q _ => ∃ (a : Addr) (ns : List Int), vs = [.ref a] ∧ SqL K H a (ns.map V.int) ∧ ns.length ≤ 63 ∧ ∀ H' p (xs : List Str), Same H H' → H p = none → H' p = some (.lst (xs.map V.str)) → xs ≠ [] → xs.length ≤ 60 → (∀ x ∈ xs, x ∈ goodI) → Q (.ref p) H'
noncomputable abbrev s__law_items : Stmt := top 24
theorem sc__law_items : FnScope ["_law_script", "_law_whole", "_law_size", "_law_period", "_law_sums", "_law_k", "_law_cell", "_law_items_here"] ["_law_script"] (defScope s__law_items) := ⟨rfl, rfl, rfl, by decide +kernel, rfl, by decide +kernel, by decide +kernel⟩
theorem ok__law_items {f : Addr} {fd : FuncData} (F : Fun K "_law_items" "_law_items" s__law_items f fd) (T : Txt K mg c) (c__law_mixed : CallF P w K mg base "_law_mixed" 1 ["_law_cell", "_law_k"] sp__law_mixed) : FnOk P w K mg base CX0 2 f fd ["_law_script"] (sp__law_items K) := by
  refine F.ok sc__law_items (fun vs H Q E h => ?_) (fun cdv A outer s H vs Q E hr h => ?_)
  · obtain ⟨a, ns, rfl, _⟩ := h
    rfl
  · obtain ⟨a, ns, rfl, sa, hl, q⟩ := h
    refine ⟨_, (pss_cons (ps_set (i := 1) sc__law_items.nd rfl (Or.inr rfl) (pe_op op_add (pe_callB (k_sum (K := K)) rfl (T.own _ (by decide)) boot_sum (pa_cons (pv 0) pa_nil)) (pe_op op_mul pe_int (pe_callB (k_len (K := K)) rfl (T.own _ (by decide)) boot_len (pa_cons (pv 0) pa_nil)))))
      (pss_cons (ps_set (i := 2) sc__law_items.nd rfl (Or.inl rfl) (pe_op op_add pe_int (pe_op op_mod (pe_callF c__law_mixed hr (pa_cons (pv 1) (pa_cons pe_int pa_nil))) pe_int)))
      (pss_cons (ps_set (i := 3) sc__law_items.nd rfl (Or.inr rfl) (pe_op op_add pe_int (pe_op op_mod (pe_callF c__law_mixed hr (pa_cons (pv 1) (pa_cons pe_int pa_nil))) pe_int)))
      (pss_cons (ps_if (pt_cmpR op_eq (pe_op op_mod (pe_callF c__law_mixed hr (pa_cons (pv 1) (pa_cons pe_int pa_nil))) pe_int) pe_int (nomark _)) (pss_cons (ps_set (i := 3) sc__law_items.nd rfl (Or.inr rfl) (pe_op op_add pe_int (pe_op op_mod (pe_callF c__law_mixed hr (pa_cons (pv 1) (pa_cons pe_int pa_nil))) pe_int)))
      (pss_one (ps_set (i := 2) sc__law_items.nd rfl (Or.inl rfl) (pe_op op_mul pe_int (pv 3))))) pss_nil)
      (pss_cons (ps_set (i := 4) sc__law_items.nd rfl (Or.inl rfl) (pe_op op_rep (pe_lst (pa_cons pe_int pa_nil)) (pv 2)))
      (pss_cons (ps_for PassesOwn.never rfl (pi_enum (K := K) rfl (T.own _ (by decide)) (pa_cons (pv 0) pa_nil)) (k_gtup (K := K) rfl (pgs_cons (pg_name (i := 5) sc__law_items.nd rfl (Or.inl rfl)) (pgs_cons (pg_name (i := 6) sc__law_items.nd rfl (Or.inl rfl)) pgs_nil))) (pss_one (ps_asg (pe_op op_add (pe_ix (k_ixl (K := K)) (pv 4) (pe_op op_mod (pv 5) (pv 2)) (fun _ _ => rfl)) (pe_op op_mod (pv 6) (pe_op op_pow pe_int pe_int))) (pg_sub (pv 4) (pe_op op_mod (pv 5) (pv 2)) set_list))))
      (pss_cons (ps_comp1 (i := 7) sc__law_items.nd rfl (Or.inl rfl) (pi_range1 rfl (T.own _ (by decide)) (pa_cons (pv 2) pa_nil)) (fun _ _ _ _ => pts_nil) (fun _ _ _ _ => (pe_ix (k_ixl (K := K)) (pe_lst (pa_cons pe_str (pa_cons pe_str (pa_cons pe_str (pa_cons pe_str (pa_cons pe_str (pa_cons pe_str pa_nil))))))) (pe_op op_mod (pe_callF c__law_mixed hr (pa_cons (pv 2) (pa_cons (pe_op op_add pe_int (pe_op op_mod (pv 0) (pv 1))) pa_nil))) pe_int) (fun _ _ => rfl))))
      (pss_cons (ps_for PassesOwn.never rfl (pi_range1 rfl (T.own _ (by decide)) (pa_cons (pv 2) pa_nil)) (pg_name (i := 5) sc__law_items.nd rfl (Or.inl rfl)) (pss_one (ps_if (PW.pt (pw_and (pt_cmpR op_lt (pv 2) pe_int (nomark _)) (pw_and1 (pt_cmpR op_eq (pe_op op_mod (pe_ix (k_ixl (K := K)) (pv 4) (pv 5) (fun _ _ => rfl)) (pe_ix (k_ixl (K := K)) (pe_lst (pa_cons pe_int (pa_cons pe_int (pa_cons pe_int (pa_cons pe_int pa_nil))))) (pe_op op_mod (pe_callF c__law_mixed hr (pa_cons (pv 1) (pa_cons pe_int pa_nil))) pe_int) (fun _ _ => rfl))) pe_int (nomark _))))) (pss_one (ps_asg (pe_ix (k_ixl (K := K)) (pe_lst (pa_cons pe_str (pa_cons pe_str (pa_cons pe_str pa_nil)))) (pe_op op_mod (pe_op op_fdivL (pe_ix (k_ixl (K := K)) (pv 4) (pv 5) (fun _ _ => rfl)) pe_int) pe_int) (fun _ _ => rfl)) (pg_sub (pv 7) (pv 5) set_list))) pss_nil)))
      (pss_one (ps_ret (pv 7))))))))))), ?_⟩
    walk_at "v"
    refine rd_sum sa ?_
    walk_at "v"
    refine rd_lenL sa ?_
    walk_at "v"
    refine rd_rI (.inl ⟨by decide, by decide⟩) ?_
    walk_at "v"
    generalize ns.sum + 3 * ((ns.map V.int).length : Int) = W
    refine ⟨W, 1, rfl, ⟨by decide, by decide⟩, ?_⟩
    walk_at "v"
    refine rd_rI (by decide) ?_
    walk_at "v"
    refine ⟨W, 2, rfl, ⟨by decide, by decide⟩, ?_⟩
    walk_at "v"
    refine rd_rI (by decide) ?_
    walk_at "v"
    obtain ⟨n1, e1, l1⟩ := modN (mixV W 1) (m := 24) (by decide)
    obtain ⟨p1, e2, l2⟩ := modN (mixV W 2) (m := 6) (by decide)
    obtain ⟨p2, e3, l3⟩ := modN (mixV W 2) (m := 8) (by decide)
    have e1 : mixV W 1 % 24 = (n1 : Nat) := e1
    have e2 : mixV W 2 % 6 = (p1 : Nat) := e2
    have e3 : mixV W 2 % 8 = (p2 : Nat) := e3
    rw [e1, e2]
    refine ifJ (fun σ' H1 => ∃ n p : Nat, σ' = [some (.ref a), some (.int W), some (nV n), some (nV p), none, none, none, none] ∧ H1 = H ∧ 1 ≤ n ∧ n ≤ 60 ∧ 1 ≤ p ∧ p ≤ 20) ?_ (fun key => ?_)
    rotate_left
    · walk_at "w"
      refine ⟨W, 30, rfl, ⟨by decide, by decide⟩, ?_⟩
      walk_at "w"
      refine rd_rI (by decide) ?_
      walk_at "w"
      refine iteP (fun _ => ?_) (fun _ => ?_)
      · walk_at "w"
        refine ⟨W, 2, rfl, ⟨by decide, by decide⟩, ?_⟩
        walk_at "w"
        refine rd_rI (by decide) ?_
        rw [e3]
        walk_at "w"
        refine rd_rI (.inl ⟨by decide, by decide⟩) ?_
        rw [show (3 : Int) * (13 + ((p2 : Nat) : Int)) = ((3 * (13 + p2) : Nat) : Int) by omega, show (13 : Int) + ((p2 : Nat) : Int) = ((13 + p2 : Nat) : Int) by omega]
        exact key _ _ ⟨3 * (13 + p2), 13 + p2, rfl, rfl, by omega, by omega, by omega, by omega⟩
      · rw [show (1 : Int) + ((n1 : Nat) : Int) = ((1 + n1 : Nat) : Int) by omega, show (1 : Int) + ((p1 : Nat) : Int) = ((1 + p1 : Nat) : Int) by omega] at *
        exact key _ _ ⟨1 + n1, 1 + p1, rfl, rfl, by omega, by omega, by omega, by omega⟩
    rintro σ' H1 ⟨n, p, rfl, rfl, n1', n60, p1', p20⟩
    clear e1 e2 e3 l1 l2 l3
    walk_at "w"
    intro z0 hz0
    have s1 := same_new (o := HO.lst [V.int 0]) hz0
    have g1 : upd H1 z0 (HO.lst [V.int 0]) z0 = _ := upd_same
    generalize upd H1 z0 (HO.lst [V.int 0]) = H2 at s1 g1 ⊢
    walk_at "w"
    refine rd_rep g1 (by omega) (by omega) (by decide) fun q0 hq0 => ?_
    have er : (List.replicate ((n : Nat) : Int).toNat [V.int 0]).flatten = ((List.replicate n (0 : Int)).map V.int) := by
      rw [Int.toNat_natCast]
      clear n60 n1' hq0
      induction n with
      | zero => rfl
      | succ n ih => rw [List.replicate_succ, List.flatten_cons, ih, List.replicate_succ]; rfl
    rw [er]
    have s2 := same_new (o := HO.lst ((List.replicate n (0 : Int)).map V.int)) hq0
    have g2 : upd H2 q0 (HO.lst ((List.replicate n (0 : Int)).map V.int)) q0 = _ := upd_same
    generalize upd H2 q0 (HO.lst ((List.replicate n (0 : Int)).map V.int)) = H3 at s2 g2 ⊢
    walk_at "w"
    refine ⟨a, rfl, ⟨_, (s1.trans s2).seq sa⟩, for_srcW (H0 := H2) (fs_enum (s1.seq sa)) (fun i σ H4 => ∃ x y, ∃ ms : List Int, σ = [some (.ref a), some (.int W), some (nV n), some (nV p), some (.ref q0), x, y, none] ∧ Same H2 H4 ∧ H4 q0 = some (.lst (ms.map V.int)) ∧ ms.length = n) ⟨_, _, _, rfl, s2, g2, by simp⟩ (fun i σ H5 ⟨_, _, _, _, s, _⟩ => s) ?_ ?_⟩
    · rintro i σ H4 H5 hi ⟨x, y, ms, rfl, s4, hq4, lm⟩ s5
      rw [List.length_map] at hi
      have sC := s4.trans s5
      have hq5 := s5 _ _ hq4
      have ec : (ns.map V.int).getD i .non = .int (ns.getD i 0) := by
        rw [List.getD_eq_getElem?_getD, List.getElem?_map, List.getD_eq_getElem?_getD, List.getElem?_eq_getElem hi]
        rfl
      rw [ec]
      generalize ns.getD i 0 = cell
      obtain ⟨j, ej, lj⟩ := modN ((i : Nat) : Int) (m := n) (by omega)
      walk_at "w"
      refine rd_rI (show (0 : Int) < (n : Nat) by omega) ?_
      rw [ej]
      walk_at "w"
      refine rd_ixL (SqL.of hq5) (atI_nat (by rw [List.length_map]; omega)) ?_
      have em : (ms.map V.int).getD j .non = .int (ms.getD j 0) := by
        rw [List.getD_eq_getElem?_getD, List.getElem?_map, List.getD_eq_getElem?_getD, List.getElem?_eq_getElem (by omega)]
        rfl
      rw [em]
      walk_at "w"
      refine rd_rI ⟨by decide, by decide, by decide⟩ ?_
      walk_at "w"
      refine rd_rI (Int.pow_pos (by decide)) ?_
      walk_at "w"
      generalize ms.getD j 0 + cell % 10 ^ (60 : Int).toNat = nw
      refine ⟨_, rfl, ?_⟩
      walk_at "w"
      refine rd_rI (show (0 : Int) < (n : Nat) by omega) ?_
      rw [ej]
      refine ⟨q0, _, _, j, rfl, rfl, hq5, ixN_nat (by rw [List.length_map]; omega), ?_⟩
      exact ⟨_, _, ms.set j nw, rfl, same_at sC hq0, by rw [upd_same, List.map_set], by rw [List.length_set]; exact lm⟩
    · rintro σ H4 ⟨x, y, ms, rfl, s4, hq4, lm⟩
      walk_at "w"
      refine ⟨_, rfl, by omega, by omega, fun D hD => ?_⟩
      rw [Int.toNat_natCast]
      refine strs_comp (G := fun i => (["1", "2", "1", "3", "1+2", "-"] : List Str).getD ((mixV W (3 + ((i : Nat) : Int) % ((p : Nat) : Int)) % 6).toNat) "") (src_range0 rfl) hD (by omega) ?_ ?_
      · intro i H5 R hi s5 kk
        walk_at "w"
        intro l hl'
        have s6 := same_new (o := HO.lst ((["1", "2", "1", "3", "1+2", "-"] : List Str).map V.str)) hl'
        have g6 : upd H5 l (HO.lst ((["1", "2", "1", "3", "1+2", "-"] : List Str).map V.str)) l = _ := upd_same
        have e6 : HO.lst [V.str (Str.ofString "1"), V.str (Str.ofString "2"), V.str (Str.ofString "1"), V.str (Str.ofString "3"), V.str (Str.ofString "1+2"), V.str (Str.ofString "-")] = HO.lst ((["1", "2", "1", "3", "1+2", "-"] : List Str).map V.str) := rfl
        rw [e6]
        generalize hLs : (["1", "2", "1", "3", "1+2", "-"] : List Str) = Ls at *
        have lL : Ls.length = 6 := by rw [← hLs]; rfl
        generalize upd H5 l (HO.lst (Ls.map V.str)) = H6 at s6 g6 ⊢
        walk_at "w"
        refine rd_rI (show (0 : Int) < (p : Nat) by omega) ?_
        obtain ⟨j, ej, lj⟩ := modN ((i : Nat) : Int) (m := p) (by omega)
        walk_at "w"
        refine ⟨W, _, rfl, ⟨by rw [ej]; omega, by rw [ej]; omega⟩, ?_⟩
        walk_at "w"
        refine rd_rI (by decide) ?_
        obtain ⟨t, et, lt⟩ := modN (mixV W (3 + ((i : Nat) : Int) % ((p : Nat) : Int))) (m := 6) (by decide)
        have et : mixV W (3 + ((i : Nat) : Int) % ((p : Nat) : Int)) % 6 = (t : Nat) := et
        have kk := kk H6 s6
        rw [et, Int.toNat_natCast] at kk
        rw [et]
        refine rd_ixL (SqL.of g6) (atI_nat (by rw [List.length_map]; omega)) ?_
        have em : (Ls.map V.str).getD t .non = .str (Ls.getD t "") := by
          rw [List.getD_eq_getElem?_getD, List.getElem?_map, List.getD_eq_getElem?_getD, List.getElem?_eq_getElem (by omega)]
          rfl
        rw [em]
        exact kk
      intro H5 s5 hd5
      have ok5 : ∀ z ∈ (List.range n).map (fun i => (["1", "2", "1", "3", "1+2", "-"] : List Str).getD ((mixV W (3 + ((i : Nat) : Int) % ((p : Nat) : Int)) % 6).toNat) ""), z ∈ goodI := fun z hz => by
        obtain ⟨i, _, rfl⟩ := List.mem_map.mp hz
        obtain ⟨t, et, lt⟩ := modN (mixV W (3 + ((i : Nat) : Int) % ((p : Nat) : Int))) (m := 6) (by decide)
        have et : mixV W (3 + ((i : Nat) : Int) % ((p : Nat) : Int)) % 6 = (t : Nat) := et
        rw [et, Int.toNat_natCast]
        have : ∀ t, t < 6 → (["1", "2", "1", "3", "1+2", "-"] : List Str).getD t "" ∈ goodI := by decide +kernel
        exact this t lt
      have l5 : ((List.range n).map (fun i => (["1", "2", "1", "3", "1+2", "-"] : List Str).getD ((mixV W (3 + ((i : Nat) : Int) % ((p : Nat) : Int)) % 6).toNat) "")).length = n := by simp
      generalize (List.range n).map (fun i => (["1", "2", "1", "3", "1+2", "-"] : List Str).getD ((mixV W (3 + ((i : Nat) : Int) % ((p : Nat) : Int)) % 6).toNat) "") = xs0 at hd5 ok5 l5
      have hq5 := s5 _ _ hq4
      have nD : D ≠ q0 := fun z => by rw [z, hq4] at hD; cases hD
      walk_at "w"
      refine ⟨_, rfl, by omega, by omega, ?_⟩
      rw [Int.toNat_natCast]
      refine for_srcW (H0 := H4) (fs_range0 (n := n)) (fun i σ H6 => ∃ x, ∃ xs : List Str, σ = [some (.ref a), some (.int W), some (nV n), some (nV p), some (.ref q0), x, y, some (.ref D)] ∧ Same H4 H6 ∧ H6 D = some (.lst (xs.map V.str)) ∧ xs.length = n ∧ ∀ z ∈ xs, z ∈ goodI) ⟨_, _, rfl, s5, hd5, l5, ok5⟩ (fun i σ H5 ⟨_, _, _, s, _⟩ => s) ?_ ?_
      · rintro i σ H6 H7 hi ⟨x, xs, rfl, s6, hD6, lx, ok⟩ s7
        have sC := s6.trans s7
        have hq7 := sC _ _ hq4
        have hD7 := s7 _ _ hD6
        walk_at "w"
        refine iteP (fun _ => ?_) (fun _ => ?_)
        · walk_at "w"
          refine rd_ixL (SqL.of hq7) (atI_nat (by rw [List.length_map]; omega)) ?_
          have em : (ms.map V.int).getD i .non = .int (ms.getD i 0) := by
            rw [List.getD_eq_getElem?_getD, List.getElem?_map, List.getD_eq_getElem?_getD, List.getElem?_eq_getElem (by omega)]
            rfl
          rw [em]
          generalize ms.getD i 0 = sum1
          walk_at "w"
          intro l hl'
          have s8 := same_new (o := HO.lst (([2, 5, 9, 1000] : List Nat).map nV)) hl'
          have g8 : upd H7 l (HO.lst (([2, 5, 9, 1000] : List Nat).map nV)) l = _ := upd_same
          have e8 : HO.lst [V.int 2, V.int 5, V.int 9, V.int 1000] = HO.lst (([2, 5, 9, 1000] : List Nat).map nV) := rfl
          rw [e8]
          generalize upd H7 l (HO.lst (([2, 5, 9, 1000] : List Nat).map nV)) = H8 at s8 g8 ⊢
          walk_at "w"
          refine ⟨W, 20, rfl, ⟨by decide, by decide⟩, ?_⟩
          walk_at "w"
          refine rd_rI (by decide) ?_
          obtain ⟨t, et, lt⟩ := modN (mixV W 20) (m := 4) (by decide)
          have et : mixV W 20 % 4 = (t : Nat) := et
          rw [et]
          obtain ⟨dv, edv, dpos⟩ : ∃ dv : Nat, (([2, 5, 9, 1000] : List Nat).map nV).getD t .non = nV dv ∧ 0 < dv := by
            rcases (show t = 0 ∨ t = 1 ∨ t = 2 ∨ t = 3 by omega) with rfl | rfl | rfl | rfl
            · exact ⟨2, rfl, by decide⟩
            · exact ⟨5, rfl, by decide⟩
            · exact ⟨9, rfl, by decide⟩
            · exact ⟨1000, rfl, by decide⟩
          refine rd_ixL (SqL.of g8) (atI_nat (by rw [List.length_map]; exact lt)) ?_
          rw [edv]
          walk_at "w"
          refine rd_rI (show (0 : Int) < (dv : Nat) by omega) ?_
          walk_at "w"
          refine iteP (fun _ => ?_) (fun _ => ?_)
          · walk_at "w"
            intro l2 hl2
            have s9 := same_new (o := HO.lst ((["1", "2", "4"] : List Str).map V.str)) hl2
            have g9 : upd H8 l2 (HO.lst ((["1", "2", "4"] : List Str).map V.str)) l2 = _ := upd_same
            have e9 : HO.lst [V.str (Str.ofString "1"), V.str (Str.ofString "2"), V.str (Str.ofString "4")] = HO.lst ((["1", "2", "4"] : List Str).map V.str) := rfl
            rw [e9]
            generalize upd H8 l2 (HO.lst ((["1", "2", "4"] : List Str).map V.str)) = H9 at s9 g9 ⊢
            have hq9 := s9 _ _ (s8 _ _ hq7)
            walk_at "w"
            refine rd_ixL (SqL.of hq9) (atI_nat (by rw [List.length_map]; omega)) ?_
            have em2 : ∃ sum2, (ms.map V.int).getD i .non = .int sum2 := ⟨ms.getD i 0, by
              rw [List.getD_eq_getElem?_getD, List.getElem?_map, List.getD_eq_getElem?_getD, List.getElem?_eq_getElem (by omega)]
              rfl⟩
            obtain ⟨sum2, em2⟩ := em2
            rw [em2]
            walk_at "w"
            refine rd_rI ⟨by decide, by decide⟩ ?_
            walk_at "w"
            refine rd_rI (by decide) ?_
            obtain ⟨u, eu, lu⟩ := modN (sum2 / 9) (m := 3) (by decide)
            have eu : sum2 / 9 % 3 = (u : Nat) := eu
            rw [eu]
            obtain ⟨wd, ewd, gwd⟩ : ∃ wd : Str, ((["1", "2", "4"] : List Str).map V.str).getD u .non = .str wd ∧ wd ∈ goodI := by
              rcases (show u = 0 ∨ u = 1 ∨ u = 2 by omega) with rfl | rfl | rfl
              · exact ⟨"1", rfl, by decide +kernel⟩
              · exact ⟨"2", rfl, by decide +kernel⟩
              · exact ⟨"4", rfl, by decide +kernel⟩
            refine rd_ixL (SqL.of g9) (atI_nat (by rw [List.length_map]; exact lu)) ?_
            rw [ewd]
            refine ⟨_, rfl, ?_⟩
            walk_at "w"
            have hD9 := s9 _ _ (s8 _ _ hD7)
            refine ⟨D, _, _, i, rfl, rfl, hD9, ixN_nat (by rw [List.length_map]; omega), ?_⟩
            refine ⟨_, xs.set i wd, rfl, same_at (sC.trans (s8.trans s9)) hD, by rw [upd_same, List.map_set], by rw [List.length_set]; exact lx, fun z hz => ?_⟩
            rcases List.mem_or_eq_of_mem_set hz with h | h
            · exact ok z h
            · rw [h]; exact gwd
          · walk_at "w"
            exact ⟨_, xs, rfl, sC.trans s8, s8 _ _ hD7, lx, ok⟩
        · walk_at "w"
          exact ⟨_, xs, rfl, sC, hD7, lx, ok⟩
      · rintro σ H6 ⟨x, xs, rfl, s6, hD6, lx, ok⟩
        walk_at "w"
        refine q H6 D xs (s1.trans (s4.trans s6)) (s1.free (s4.free hD)) hD6 (fun z => ?_) (by omega) ok
        rw [z] at lx
        simp at lx
        omega
end
end K03
open L2
namespace K03
open PySem L2 PySem.Spec PyProof.Rows
seal L2.PE L2.PT L2.PW L2.PA L2.PS L2.PSs L2.PI L2.PG L2.PTs L2.PGs
section
variable {P : Program} {w : World} {K : PySem.W.Frag} {mg : Str → Option Value} {base : Heap} {c : Cs}
noncomputable def sp__law_most (K : PySem.W.Frag) : Sp := fun vs H Q _ => ∃ (x : Addr) (xs : List Str) (b z e : Nat), vs = [.ref x, nV b, nV z, nV e] ∧ SqL K H x (xs.map V.str) ∧ 1 ≤ z ∧ b + z * 2 ≤ e ∧ e ≤ xs.length ∧ xs.length ≤ 60 ∧
  ∀ H' t, Same H H' → 1 ≤ t → b + z * t ≤ e → MFew.Blk xs b z t → (∀ t', b + z * t' ≤ e → MFew.Blk xs b z t' → t' ≤ t) → Q (nV t) H'
noncomputable abbrev s__law_most : Stmt := top 25
theorem sc__law_most : FnScope ["_law_items_here", "_law_begin", "_law_size", "_law_end", "_law_times", "_law_here"] ["_law_items_here", "_law_begin", "_law_size", "_law_end"] (defScope s__law_most) := ⟨rfl, rfl, rfl, by decide +kernel, rfl, by decide +kernel, by decide +kernel⟩
theorem ok__law_most {f : Addr} {fd : FuncData} (F : Fun K "_law_most" "_law_most" s__law_most f fd) (T : Txt K mg c) : FnOk P w K mg base CX0 1 f fd ["_law_items_here", "_law_begin", "_law_size", "_law_end"] (sp__law_most K) := by
  refine F.ok sc__law_most (fun vs H Q E h => ?_) (fun cdv A outer s H vs Q E hr h => ?_)
  · obtain ⟨x, xs, b, z, e, rfl, _⟩ := h
    rfl
  · obtain ⟨x, xs, b, z, e, rfl, sx, z1, hb, he, h60, k⟩ := h
    have hu := hr.units0
    refine ⟨_, (pss_cons (ps_set (i := 4) sc__law_most.nd rfl (Or.inl rfl) pe_int)
      (pss_cons (ps_while PassesOwn.never (pt_cmpR op_le (pe_op op_add (pv 1) (pe_op op_mul (pv 2) (pe_op op_add (pv 4) pe_int))) (pv 3) (nomark _)) (pss_cons (ps_set (i := 5) sc__law_most.nd rfl (Or.inl rfl) (pe_op op_add (pv 1) (pe_op op_mul (pv 2) (pv 4))))
      (pss_cons (ps_if (pt_cmpR (k_nel hu (K := K)) (pe_slice (k_sll (K := K)) (pv 0) (po_some (pv 5)) (po_some (pe_op op_add (pv 5) (pv 2)))) (pe_slice (k_sll (K := K)) (pv 0) (po_some (pv 1)) (po_some (pe_op op_add (pv 1) (pv 2)))) (nomark _)) (pss_one (ps_ret (pv 4))) pss_nil)
      (pss_one (ps_set (i := 4) sc__law_most.nd rfl (Or.inl rfl) (pe_op op_add (pv 4) pe_int))))))
      (pss_one (ps_ret (pv 4))))), ?_⟩
    walk_at "w"
    refine ⟨fun r σ H3 => ∃ (t : Nat) (y : Option V), r = 100 - t ∧ σ = [some (.ref x), some (nV b), some (nV z), some (nV e), some (nV t), y] ∧ Same H H3 ∧ 1 ≤ t ∧ b + z * t ≤ e ∧ MFew.Blk xs b z t, ⟨99, 1, none, rfl, rfl, Same.refl _, Nat.le_refl _, by omega, fun k hk => by rw [show k = 0 by omega, Nat.mul_zero, Nat.add_zero]⟩, ?_⟩
    rintro r σ H3 ⟨t, y, rfl, rfl, s3, t1, ht, bl⟩
    have hzt : t ≤ z * t := Nat.le_mul_of_pos_left _ z1
    walk_at "w"
    refine rd_rI (.inl ⟨by omega, by omega⟩) ?_
    have em : ((z : Nat) : Int) * (((t : Nat) : Int) + 1) = ((z * (t + 1) : Nat) : Int) := by rw [Int.natCast_mul]; rfl
    rw [em]
    walk_at "w"
    refine iteP (fun h1 => ?_) (fun h1 => ?_)
    · refine ⟨fun σ H4 => ∃ y, σ = [some (.ref x), some (nV b), some (nV z), some (nV e), some (nV (t + 1)), y] ∧ Same H H4 ∧ MFew.Blk xs b z (t + 1), ?_, ?_⟩
      · rintro σ' H' ⟨y, e1, e2, e3⟩
        exact ⟨100 - (t + 1), by omega, t + 1, y, rfl, e1, e2, by omega, by omega, e3⟩
      walk_at "w"
      refine rd_rI (.inl ⟨by omega, by omega⟩) ?_
      have em2 : ((z : Nat) : Int) * ((t : Nat) : Int) = ((z * t : Nat) : Int) := (Int.natCast_mul _ _).symm
      rw [em2]
      walk_at "w"
      have eh : ((b : Nat) : Int) + ((z * t : Nat) : Int) = ((b + z * t : Nat) : Int) := by omega
      have eh2 : ((b + z * t : Nat) : Int) + ((z : Nat) : Int) = ((b + z * t + z : Nat) : Int) := by omega
      have eb2 : ((b : Nat) : Int) + ((z : Nat) : Int) = ((b + z : Nat) : Int) := by omega
      rw [eh]
      refine rd_slL (s3.seq sx) fun l1 hl1 => ?_
      rw [eh2, cut_str (by omega)]
      have s4 := same_new (o := HO.lst ((MFew.sl xs (b + z * t) (b + z * t + z)).map V.str)) hl1
      have g4 : upd H3 l1 (HO.lst ((MFew.sl xs (b + z * t) (b + z * t + z)).map V.str)) l1 = _ := upd_same
      generalize upd H3 l1 (HO.lst ((MFew.sl xs (b + z * t) (b + z * t + z)).map V.str)) = H4 at s4 g4 ⊢
      walk_at "w"
      refine rd_slL ((s3.trans s4).seq sx) fun l2 hl2 => ?_
      rw [eb2, cut_str (by omega)]
      have s5 := same_new (o := HO.lst ((MFew.sl xs b (b + z)).map V.str)) hl2
      have g5 : upd H4 l2 (HO.lst ((MFew.sl xs b (b + z)).map V.str)) l2 = _ := upd_same
      generalize upd H4 l2 (HO.lst ((MFew.sl xs b (b + z)).map V.str)) = H5 at s5 g5 ⊢
      walk_at "w"
      refine eqS_list (SqL.of (s5 _ _ g4)) (SqL.of g5) ?_
      walk_at "w"
      have sC := s3.trans (s4.trans s5)
      refine iteN (fun h2 => ?_) (fun h2 => ?_)
      · walk_at "w"
        refine k H5 t sC t1 ht bl fun t' q1 q2 => Nat.le_of_not_lt fun q => h2 (q2 t q)
      · walk_at "w"
        have e9 : ((t : Nat) : Int) + 1 = ((t + 1 : Nat) : Int) := by omega
        rw [e9]
        refine ⟨_, rfl, sC, fun j hj => ?_⟩
        rcases Nat.lt_or_ge j t with q | q
        · exact bl j q
        · rw [show j = t by omega]
          exact h2
    · walk_at "w"
      refine k H3 t s3 t1 ht bl fun t' q1 q2 => Nat.le_of_not_lt fun q => ?_
      have : z * (t + 1) ≤ z * t' := Nat.mul_le_mul_left _ q
      omega
theorem rs_down (n : Nat) : (Builtin.Range.rangeSize ((n : Nat) : Int) (-1) (-1)).toNat = n + 1 := by
  unfold Builtin.Range.rangeSize
  rw [if_neg (by decide), if_pos (by omega), show -(-1 : Int) = 1 by decide, Int.ediv_one]
  omega
open MFew in
noncomputable def MAt (H : Hp) (kvs : List (List Key × V)) (xs : List Str) (a b : Nat) : Prop := valV kvs [.inl (a : Nat), .inl (b : Nat)] = some (nV (M (sl xs a b)))
noncomputable def sp__law_fewest (K : PySem.W.Frag) : Sp := fun vs H Q _ => ∃ (x : Addr) (xs : List Str), vs = [.ref x] ∧ SqL K H x (xs.map V.str) ∧ xs.length ≤ 60 ∧ ∀ H', Same H H' → Q (nV (MFew.M xs)) H'
noncomputable abbrev s__law_fewest : Stmt := top 26
theorem sc__law_fewest : FnScope ["_law_items_here", "_law_few", "_law_begin", "_law_end", "_law_best", "_law_size", "_law_times"] ["_law_items_here"] (defScope s__law_fewest) := ⟨rfl, rfl, rfl, by decide +kernel, rfl, by decide +kernel, by decide +kernel⟩
theorem ok__law_fewest {f : Addr} {fd : FuncData} (F : Fun K "_law_fewest" "_law_fewest" s__law_fewest f fd) (T : Txt K mg c) (c__law_most : CallF P w K mg base "_law_most" 1 ["_law_items_here", "_law_begin", "_law_size", "_law_end"] (sp__law_most K)) : FnOk P w K mg base CX0 2 f fd ["_law_items_here"] (sp__law_fewest K) := by
  refine F.ok sc__law_fewest (fun vs H Q E h => ?_) (fun cdv A outer s H vs Q E hr h => ?_)
  · obtain ⟨x, xs, rfl, _⟩ := h
    rfl
  · obtain ⟨x, xs, rfl, sx, h60, k⟩ := h
    have hu := hr.units0
    have hu1 := hr.units1
    refine ⟨_, (pss_cons (ps_set (i := 1) sc__law_fewest.nd rfl (Or.inl rfl) pe_dnewT)
      (pss_cons (ps_for PassesOwn.never rfl (pi_range3 rfl (T.own _ (by decide)) (pa_cons (pe_callB (k_len (K := K)) rfl (T.own _ (by decide)) boot_len (pa_cons (pv 0) pa_nil)) (pa_cons (pe_un un_neg pe_int) (pa_cons (pe_un un_neg pe_int) pa_nil)))) (pg_name (i := 2) sc__law_fewest.nd rfl (Or.inl rfl)) (pss_cons (ps_dput hu1 (pv 1) (pe_tup (pa_cons (pv 2) (pa_cons (pv 2) pa_nil))) pe_int rfl)
      (pss_one (ps_for PassesOwn.never rfl (pi_range2 rfl (T.own _ (by decide)) (pa_cons (pe_op op_add (pv 2) pe_int) (pa_cons (pe_op op_add (pe_callB (k_len (K := K)) rfl (T.own _ (by decide)) boot_len (pa_cons (pv 0) pa_nil)) pe_int) pa_nil))) (pg_name (i := 3) sc__law_fewest.nd rfl (Or.inl rfl)) (pss_cons (ps_set (i := 4) sc__law_fewest.nd rfl (Or.inl rfl) (pe_op op_add pe_int (pe_dget hu1 (pv 1) (pe_tup (pa_cons (pe_op op_add (pv 2) pe_int) (pa_cons (pv 3) pa_nil))) (fun _ _ => rfl))))
      (pss_cons (ps_for PassesOwn.never rfl (pi_range2 rfl (T.own _ (by decide)) (pa_cons pe_int (pa_cons (pe_op op_add (pe_op op_fdivL (pe_op op_sub (pv 3) (pv 2)) pe_int) pe_int) pa_nil))) (pg_name (i := 5) sc__law_fewest.nd rfl (Or.inl rfl)) (pss_one (ps_for PassesOwn.never rfl (pi_range2 rfl (T.own _ (by decide)) (pa_cons pe_int (pa_cons (pe_op op_add (pe_callF c__law_most hr (pa_cons (pv 0) (pa_cons (pv 2) (pa_cons (pv 5) (pa_cons (pv 3) pa_nil))))) pe_int) pa_nil))) (pg_name (i := 6) sc__law_fewest.nd rfl (Or.inl rfl)) (pss_one (ps_set (i := 4) sc__law_fewest.nd rfl (Or.inl rfl) (pe_callB k_min2 rfl (T.own _ (by decide)) boot_min' (pa_cons (pv 4) (pa_cons (pe_op op_add (pe_op op_add pe_int (pe_dget hu1 (pv 1) (pe_tup (pa_cons (pv 2) (pa_cons (pe_op op_add (pv 2) (pv 5)) pa_nil))) (fun _ _ => rfl))) (pe_dget hu1 (pv 1) (pe_tup (pa_cons (pe_op op_add (pv 2) (pe_op op_mul (pv 5) (pv 6))) (pa_cons (pv 3) pa_nil))) (fun _ _ => rfl))) pa_nil))))))))
      (pss_one (ps_dput hu1 (pv 1) (pe_tup (pa_cons (pv 2) (pa_cons (pv 3) pa_nil))) (pv 4) rfl))))))))
      (pss_one (ps_ret (pe_dget hu1 (pv 1) (pe_tup (pa_cons pe_int (pa_cons (pe_callB (k_len (K := K)) rfl (T.own _ (by decide)) boot_len (pa_cons (pv 0) pa_nil)) pa_nil))) (fun _ _ => rfl)))))), ?_⟩
    walk_at "w"
    intro d hd0
    have s1 := same_new (o := HO.dT []) hd0
    have g1 : upd H d (HO.dT []) d = _ := upd_same
    generalize upd H d (HO.dT []) = H1 at s1 g1 ⊢
    walk_at "w"
    refine rd_lenL (s1.seq sx) ?_
    walk_at "w"
    rw [List.length_map]
    refine ⟨_, _, _, rfl, ⟨by omega, by omega⟩, ⟨by decide, by decide⟩, ⟨by decide, by decide⟩, by decide, ?_⟩
    rw [show (-(1 : Int)) = -1 from rfl, rs_down]
    have hsame : ∀ {G G' : Hp} {u : HO}, Same H G → Same H (upd G d u) := fun {G G' u} h y o e => by rw [upd_ne (fun z => by rw [z, hd0] at e; cases e)]; exact h y o e
    refine for_range3 (fun i σ H3 => ∃ x2 x3 x4 x5 x6 kvs, σ = [some (.ref x), some (.ref d), x2, x3, x4, x5, x6] ∧ Same H H3 ∧ H3 d = some (.dT kvs) ∧ kvs.length ≤ 100 * i ∧ ∀ a b, xs.length + 1 ≤ a + i → a ≤ b → b ≤ xs.length → MAt H3 kvs xs a b) ⟨_, _, _, _, _, [], rfl, s1, g1, Nat.le_refl _, fun a b h1 h2 h3 => by omega⟩ ?_ ?_
    · rintro i σ H3 hi ⟨x2, x3, x4, x5, x6, kvs, rfl, s3, hd3, lk, w3⟩
      obtain ⟨B, hB⟩ : ∃ B : Nat, xs.length = B + i := ⟨xs.length - i, by omega⟩
      have eB : ((xs.length : Nat) : Int) + ((i : Nat) : Int) * -1 = ((B : Nat) : Int) := by omega
      rw [eB]
      walk_at "w"
      intro b0 hb0
      have s4 := same_new (o := HO.tup [V.int ((B : Nat) : Int), V.int ((B : Nat) : Int)]) hb0
      have g4 : upd H3 b0 (HO.tup [V.int ((B : Nat) : Int), V.int ((B : Nat) : Int)]) b0 = some (.tup (([.inl ((B : Nat) : Int), .inl ((B : Nat) : Int)] : List Key).map kV)) := upd_same
      generalize upd H3 b0 (HO.tup [V.int ((B : Nat) : Int), V.int ((B : Nat) : Int)]) = H4 at s4 g4 ⊢
      refine ⟨d, _, rfl, DPut.t (k := [.inl ((B : Nat) : Int), .inl ((B : Nat) : Int)]) (s4 _ _ hd3) g4 (Nat.lt_of_le_of_lt (show kvs.length ≤ 100000 by omega) (by decide)), ?_⟩
      have s5 : Same H (upd H4 d (HO.dT (putK kvs [.inl ((B : Nat) : Int), .inl ((B : Nat) : Int)] (V.int 0)))) := hsame (G' := H) (s3.trans s4)
      have g5 : upd H4 d (HO.dT (putK kvs [.inl ((B : Nat) : Int), .inl ((B : Nat) : Int)] (V.int 0))) d = _ := upd_same
      have l5 := length_putK kvs [.inl ((B : Nat) : Int), .inl ((B : Nat) : Int)] (V.int 0)
      generalize upd H4 d (HO.dT (putK kvs [.inl ((B : Nat) : Int), .inl ((B : Nat) : Int)] (V.int 0))) = H5 at s5 g5 ⊢
      have w5 : ∀ a b, (B + 1 ≤ a ∨ (a = B ∧ b ≤ B + 0)) → a ≤ b → b ≤ xs.length → MAt H5 (putK kvs [.inl ((B : Nat) : Int), .inl ((B : Nat) : Int)] (V.int 0)) xs a b := fun a b h1 h2 h3 => by
        unfold MAt
        rw [valV_put]
        by_cases hk : a = B ∧ b = B
        · rw [if_pos (key_eq.mpr hk), hk.1, hk.2, MFew.sl_nil, MFew.M_nil]
          rfl
        · rw [if_neg fun z => hk (key_eq.mp z)]
          exact w3 a b (by omega) h2 h3
      generalize putK kvs [.inl ((B : Nat) : Int), .inl ((B : Nat) : Int)] (V.int 0) = kv5 at g5 l5 w5
      walk_at "w"
      refine rd_lenL (s5.seq sx) ?_
      walk_at "w"
      rw [List.length_map]
      have e6 : ((B : Nat) : Int) + 1 = ((B + 1 : Nat) : Int) := by omega
      have e7 : (((xs.length : Nat) : Int) + 1 - ((B + 1 : Nat) : Int)).toNat = i := by omega
      rw [e6]
      refine ⟨_, _, rfl, ⟨by omega, by omega, by omega, by omega⟩, ?_⟩
      rw [e7]
      refine for_srcW (H0 := H) (fs_range (n := i)) (fun m σ H6 => ∃ x3 x4 x5 x6 kv6, σ = [some (.ref x), some (.ref d), some (nV B), x3, x4, x5, x6] ∧ Same H H6 ∧ H6 d = some (.dT kv6) ∧ kv6.length ≤ 100 * i + 1 + m ∧ ∀ a b, (B + 1 ≤ a ∨ (a = B ∧ b ≤ B + m)) → a ≤ b → b ≤ xs.length → MAt H6 kv6 xs a b) ⟨_, _, _, _, kv5, rfl, s5, g5, by omega, w5⟩ (fun m σ H3 ⟨_, _, _, _, _, _, s, _⟩ => s) ?_ ?_
      · rintro m σ H6 H7 hm ⟨x3, x4, x5, x6, kv6, rfl, s6, hd6, l6, w6⟩ s7
        have s17 := s6.trans s7
        have hd7 := s7 _ _ hd6
        have ee : ((B + 1 : Nat) : Int) + ((m : Nat) : Int) = ((B + 1 + m : Nat) : Int) := by omega
        rw [ee]
        obtain ⟨e, he⟩ : ∃ e, e = B + 1 + m := ⟨_, rfl⟩
        rw [← he]
        have hex : e ≤ xs.length := by omega
        have hBe : B < e := by omega
        walk_at "w"
        intro b8 hb8
        rw [e6]
        have s8 := same_new (o := HO.tup [V.int ((B + 1 : Nat) : Int), V.int ((e : Nat) : Int)]) hb8
        have g8 : upd H7 b8 (HO.tup [V.int ((B + 1 : Nat) : Int), V.int ((e : Nat) : Int)]) b8 = some (.tup (([.inl ((B + 1 : Nat) : Int), .inl ((e : Nat) : Int)] : List Key).map kV)) := upd_same
        generalize upd H7 b8 (HO.tup [V.int ((B + 1 : Nat) : Int), V.int ((e : Nat) : Int)]) = H8 at s8 g8 ⊢
        refine ⟨d, _, rfl, (w6 (B + 1) e (.inl (Nat.le_refl _)) (by omega) hex) ▸ DGet.t (k := [.inl ((B + 1 : Nat) : Int), .inl ((e : Nat) : Int)]) (s8 _ _ hd7) g8, ?_⟩
        have hd8 := s8 _ _ hd7
        walk_at "w"
        have e9 : (1 : Int) + ((MFew.M (MFew.sl xs (B + 1) e) : Nat) : Int) = ((1 + MFew.M (MFew.sl xs (B + 1) e) : Nat) : Int) := by omega
        rw [e9]
        refine rd_rI ⟨by decide, by decide⟩ ?_
        walk_at "w"
        have e10 : (((e : Nat) : Int) - ((B : Nat) : Int)) / 2 + 1 - 1 = (((e - B) / 2 : Nat) : Int) := by omega
        refine ⟨_, _, rfl, ⟨by decide, by decide, by omega, by omega⟩, ?_⟩
        rw [e10, Int.toNat_natCast]
        refine for_src (fs_range (n := (e - B) / 2)) (fun j σ H9 => ∃ (x5 x6 : Option V) (best : Nat), σ = [some (.ref x), some (.ref d), some (nV B), some (nV e), some (nV best), x5, x6] ∧ Same H8 H9 ∧ MFew.Cost (MFew.sl xs B e) best ∧ best ≤ 1 + MFew.M (MFew.sl xs (B + 1) e) ∧ ∀ z t, 1 ≤ z → z ≤ j → 2 ≤ t → B + z * t ≤ e → MFew.Blk xs B z t → best ≤ 2 + MFew.M (MFew.sl xs B (B + z)) + MFew.M (MFew.sl xs (B + z * t) e)) ⟨_, _, _, rfl, Same.refl _, MFew.law_one hBe hex, Nat.le_refl _, fun z t h1 h2 => by omega⟩ (fun m σ H3 ⟨_, _, _, _, s, _⟩ => s) ?_ ?_
        · rintro j σ H9 H10 hj ⟨x5, x6, best, rfl, s9, c9, b9, o9⟩ s10
          have ez : (1 : Int) + ((j : Nat) : Int) = ((1 + j : Nat) : Int) := by omega
          rw [ez]
          obtain ⟨z, hz⟩ : ∃ z, z = 1 + j := ⟨_, rfl⟩
          rw [← hz]
          have s18 := s17.trans (s8.trans (s9.trans s10))
          walk_at "w"
          refine ⟨x, xs, B, z, e, rfl, s18.seq sx, by omega, by omega, hex, h60, fun H11 tm s11 t1 ht bl mx => ?_⟩
          walk_at "w"
          have e12 : (((tm : Nat) : Int) + 1 - 2).toNat = tm - 1 := by omega
          have htm : tm ≤ z * tm := Nat.le_mul_of_pos_left _ (by omega)
          refine ⟨_, _, rfl, ⟨by decide, by decide, by omega, by omega⟩, ?_⟩
          rw [e12]
          refine for_src (fs_range (n := tm - 1)) (fun l σ H12 => ∃ (x6 : Option V) (best : Nat), σ = [some (.ref x), some (.ref d), some (nV B), some (nV e), some (nV best), some (nV z), x6] ∧ Same H11 H12 ∧ MFew.Cost (MFew.sl xs B e) best ∧ best ≤ 1 + MFew.M (MFew.sl xs (B + 1) e) ∧ (∀ z t, 1 ≤ z → z ≤ j → 2 ≤ t → B + z * t ≤ e → MFew.Blk xs B z t → best ≤ 2 + MFew.M (MFew.sl xs B (B + z)) + MFew.M (MFew.sl xs (B + z * t) e)) ∧ ∀ t, 2 ≤ t → t < 2 + l → best ≤ 2 + MFew.M (MFew.sl xs B (B + z)) + MFew.M (MFew.sl xs (B + z * t) e)) ⟨_, best, rfl, Same.refl _, c9, b9, o9, fun t h1 h2 => by omega⟩ (fun m σ H3 ⟨_, _, _, s, _⟩ => s) ?_ ?_
          · rintro l σ H12 H13 hl ⟨x6, best, rfl, s12, c12, b12, o12, p12⟩ s13
            have et : (2 : Int) + ((l : Nat) : Int) = ((2 + l : Nat) : Int) := by omega
            rw [et]
            obtain ⟨t, htt⟩ : ∃ t, t = 2 + l := ⟨_, rfl⟩
            rw [← htt]
            have hzt : z * t ≤ z * tm := Nat.mul_le_mul_left _ (by omega)
            have hz2 : z * 2 ≤ z * t := Nat.mul_le_mul_left _ (by omega)
            have hd13 := s13 _ _ (s12 _ _ (s11 _ _ (s10 _ _ (s9 _ _ hd8))))
            have ebz : ((B : Nat) : Int) + ((z : Nat) : Int) = ((B + z : Nat) : Int) := by omega
            have ezt : ((z : Nat) : Int) * ((t : Nat) : Int) = ((z * t : Nat) : Int) := (Int.natCast_mul _ _).symm
            have ebt : ((B : Nat) : Int) + ((z * t : Nat) : Int) = ((B + z * t : Nat) : Int) := by omega
            walk_at "w"
            intro b14 hb14
            rw [ebz]
            have s14 := same_new (o := HO.tup [nV B, V.int ((B + z : Nat) : Int)]) hb14
            have g14 : upd H13 b14 (HO.tup [nV B, V.int ((B + z : Nat) : Int)]) b14 = some (.tup (([.inl ((B : Nat) : Int), .inl ((B + z : Nat) : Int)] : List Key).map kV)) := upd_same
            generalize upd H13 b14 (HO.tup [nV B, V.int ((B + z : Nat) : Int)]) = H14 at s14 g14 ⊢
            refine ⟨d, _, rfl, (w6 B (B + z) (.inr ⟨rfl, by omega⟩) (by omega) (by omega)) ▸ DGet.t (k := [.inl ((B : Nat) : Int), .inl ((B + z : Nat) : Int)]) (s14 _ _ hd13) g14, ?_⟩
            walk_at "w"
            refine rd_rI (.inl ⟨by omega, by omega⟩) ?_
            rw [ezt]
            walk_at "w"
            intro b15 hb15
            rw [ebt]
            have s15 := same_new (o := HO.tup [V.int ((B + z * t : Nat) : Int), nV e]) hb15
            have g15 : upd H14 b15 (HO.tup [V.int ((B + z * t : Nat) : Int), nV e]) b15 = some (.tup (([.inl ((B + z * t : Nat) : Int), .inl ((e : Nat) : Int)] : List Key).map kV)) := upd_same
            generalize upd H14 b15 (HO.tup [V.int ((B + z * t : Nat) : Int), nV e]) = H15 at s15 g15 ⊢
            refine ⟨d, _, rfl, (w6 (B + z * t) e (.inl (by omega)) (by omega) hex) ▸ DGet.t (k := [.inl ((B + z * t : Nat) : Int), .inl ((e : Nat) : Int)]) (s15 _ _ (s14 _ _ hd13)) g15, ?_⟩
            walk_at "w"
            have blt : MFew.Blk xs B z t := fun k hk => bl k (by omega)
            have copt := MFew.law_opt (xs := xs) (b := B) (e := e) (size := z) (t := t) (by omega) (by omega) (by omega) hex blt
            have sE := s12.trans (s13.trans (s14.trans s15))
            by_cases hlt : 2 + MFew.M (MFew.sl xs B (B + z)) + MFew.M (MFew.sl xs (B + z * t) e) < best
            · rw [if_pos (by omega)]
              refine ⟨some (.int ((t : Nat) : Int)), 2 + MFew.M (MFew.sl xs B (B + z)) + MFew.M (MFew.sl xs (B + z * t) e), ?_, sE, copt, by omega, fun z' t' h1 h2 h3 h4 h5 => ?_, fun t' h1 h2 => ?_⟩
              · rw [show (2 : Int) + ((MFew.M (MFew.sl xs B (B + z)) : Nat) : Int) + ((MFew.M (MFew.sl xs (B + z * t) e) : Nat) : Int) = ((2 + MFew.M (MFew.sl xs B (B + z)) + MFew.M (MFew.sl xs (B + z * t) e) : Nat) : Int) by omega]
                rfl
              · have := o12 z' t' h1 h2 h3 h4 h5
                omega
              · rcases Nat.lt_or_ge t' t with q | q
                · have := p12 t' h1 (by omega)
                  omega
                · rw [show t' = t by omega]
                  exact Nat.le_refl _
            · rw [if_neg (by omega)]
              refine ⟨_, best, rfl, sE, c12, b12, o12, fun t' h1 h2 => ?_⟩
              rcases Nat.lt_or_ge t' t with q | q
              · exact p12 t' h1 (by omega)
              · rw [show t' = t by omega]
                omega
          · rintro σ H12 ⟨x6, best, rfl, s12, c12, b12, o12, p12⟩
            refine ⟨_, _, best, rfl, s9.trans (s10.trans (s11.trans s12)), c12, b12, fun z' t h1 h2 h3 h4 h5 => ?_⟩
            rcases Nat.lt_or_ge j z' with q | q
            · have ezz : z' = z := by omega
              subst ezz
              exact p12 t h3 (by have := mx t h4 h5; omega)
            · exact o12 z' t h1 q h3 h4 h5
        · rintro σ H9 ⟨x5, x6, best, rfl, s9, c9, b9, o9⟩
          have hbest := MFew.law_least hBe hex c9 b9 o9
          subst hbest
          walk_at "w"
          intro b10 hb10
          have s10 := same_new (o := HO.tup [nV B, nV e]) hb10
          have g10 : upd H9 b10 (HO.tup [nV B, nV e]) b10 = some (.tup (([.inl ((B : Nat) : Int), .inl ((e : Nat) : Int)] : List Key).map kV)) := upd_same
          generalize upd H9 b10 (HO.tup [nV B, nV e]) = H10 at s10 g10 ⊢
          have hd10 := s10 _ _ (s9 _ _ hd8)
          refine ⟨d, _, rfl, DPut.t (k := [.inl ((B : Nat) : Int), .inl ((e : Nat) : Int)]) hd10 g10 (Nat.lt_of_le_of_lt (show kv6.length ≤ 100000 by omega) (by decide)), ?_⟩
          refine ⟨_, _, _, _, _, rfl, hsame (G' := H) (s17.trans (s8.trans (s9.trans s10))), upd_same, ?_, fun a b h1 h2 h3 => ?_⟩
          · have := length_putK kv6 [.inl ((B : Nat) : Int), .inl ((e : Nat) : Int)] (nV (MFew.M (MFew.sl xs B e)))
            omega
          · unfold MAt
            rw [valV_put]
            by_cases hk : a = B ∧ b = e
            · rw [if_pos (key_eq.mpr hk), hk.1, hk.2]
            · rw [if_neg fun z => hk (key_eq.mp z)]
              exact w6 a b (by omega) h2 h3
      · rintro σ H6 ⟨x3, x4, x5, x6, kv6, rfl, s6, hd6, l6, w6⟩
        exact ⟨_, _, _, _, _, kv6, rfl, s6, hd6, by omega, fun a b h1 h2 h3 => w6 a b (by omega) h2 h3⟩
    · rintro σ H3 ⟨x2, x3, x4, x5, x6, kvs, rfl, s3, hd3, lk, w3⟩
      walk_at "w"
      refine rd_lenL (s3.seq sx) ?_
      walk_at "w"
      intro b hb
      rw [List.length_map]
      have s7 := same_new (o := HO.tup [V.int 0, V.int ((xs.length : Nat) : Int)]) hb
      have g7 : upd H3 b (HO.tup [V.int 0, V.int ((xs.length : Nat) : Int)]) b = some (.tup (([.inl ((0 : Nat) : Int), .inl ((xs.length : Nat) : Int)] : List Key).map kV)) := upd_same
      generalize upd H3 b (HO.tup [V.int 0, V.int ((xs.length : Nat) : Int)]) = H7 at s7 g7 ⊢
      refine ⟨d, _, rfl, (w3 0 xs.length (by omega) (Nat.zero_le _) (Nat.le_refl _)) ▸ DGet.t (k := [.inl ((0 : Nat) : Int), .inl ((xs.length : Nat) : Int)]) (s7 _ _ hd3) g7, ?_⟩
      rw [MFew.sl_all]
      exact k H7 (s3.trans s7)
end
end K03
open L2
namespace K03
open PySem L2 PySem.Spec PyProof.Rows
seal L2.PE L2.PT L2.PW L2.PA L2.PS L2.PSs L2.PI L2.PG L2.PTs L2.PGs
section
variable {P : Program} {w : World} {K : PySem.W.Frag} {mg : Str → Option Value} {base : Heap} {c : Cs}
noncomputable abbrev lq : Str := (envOfC "law" (defScope (top 27)) 0 0 .none).qual ++ "<lambda>"
theorem plain_ok : ∀ z ∈ goodI, z ≠ clS ∧ tms z = none ∧ z.length ≤ 100 := by
  intro z hz
  have h : ∀ z ∈ goodI, z ≠ clS ∧ Txt.endswith z opS = false ∧ z.length ≤ 100 := by decide +kernel
  obtain ⟨h1, h2, h3⟩ := h z hz
  exact ⟨h1, if_neg (by rw [h2]; decide), h3⟩
noncomputable def opnL (t : Nat) : List Nat := (Nat.toDigits 10 t).map Char.toNat ++ [40]
theorem opn_list (t : Nat) : (opn t).cps.toList = opnL t := by
  unfold opn opnL
  rw [cat_cps, Array.toList_append, PySem.W.KIN.signs_num]
  rfl
theorem opn_eq (t : Nat) : opn t = ⟨(opnL t).toArray⟩ := str_ext (by rw [← opn_list])
theorem opn_ok : ∀ t, t < 61 → 2 ≤ t → opn t ≠ clS ∧ tms (opn t) = some (some t) ∧ (opn t).length ≤ 100 := by
  intro t ht h2
  rw [opn_eq]
  have : ∀ t, t < 61 → 2 ≤ t → (⟨(opnL t).toArray⟩ : Str) ≠ clS ∧ tms ⟨(opnL t).toArray⟩ = some (some t) ∧ (⟨(opnL t).toArray⟩ : Str).length ≤ 100 := by decide +kernel
  exact this t ht h2
theorem spr_short {pl : Str → Prop} (hp : ∀ z, pl z → z ∈ goodI) {ws l : List Str} (h : MFew.Spr opn clS pl ws l) : ∀ z ∈ ws, z.length ≤ 100 := by
  induction h with
  | nil => intro z hz; cases hz
  | one x px _ ih =>
    intro z hz
    rcases List.mem_cons.mp hz with rfl | q
    · exact (plain_ok _ (hp _ px)).2.2
    · exact ih z q
  | grp t t2 t60 hu _ _ ih1 ih2 =>
    intro z hz
    rcases List.mem_cons.mp hz with rfl | q
    · exact (opn_ok t (by omega) t2).2.2
    · rcases List.mem_append.mp q with q | q
      · exact ih1 z q
      · rcases List.mem_cons.mp q with rfl | q
        · decide +kernel
        · exact ih2 z q
theorem inV_str (z : Str) (xs : List Str) : inV (.str z) (xs.map V.str) = decide (z ∈ xs) := by
  unfold inV
  rw [Bool.eq_iff_iff, List.any_eq_true, decide_eq_true_eq]
  constructor
  · rintro ⟨y, hy, e⟩
    obtain ⟨k, hk, rfl⟩ := List.mem_map.mp hy
    have e : k = z := by simpa [eqV] using e
    exact e ▸ hk
  · intro h
    exact ⟨.str z, List.mem_map.mpr ⟨z, h, rfl⟩, by simp [eqV]⟩
theorem lamT_upd {H : Hp} {T q : Addr} {qq : Str} {ys ys' : List V} (h : LamT H T qq) (hq : H q = some (.lst ys)) : LamT (upd H q (.lst ys')) T qq := by
  obtain ⟨ps, h1, h2, h3⟩ := h
  refine ⟨ps, by rw [upd_ne (ne_of h1 hq (fun z => by cases z))]; exact h1, h2, fun pos cv e => ?_⟩
  obtain ⟨c', oc, e1, e2, e3⟩ := h3 pos cv e
  exact ⟨c', oc, e1, by rw [upd_ne (ne_of e2 hq (fun z => by unfold exO at z; cases z))]; exact e2, e3⟩
theorem rd_neLS {K : PySem.W.Frag} {H : Hp} {Q : VK} {l p : Addr} {as bs : List Str} (c : SqL K H l (as.map V.str)) (d : SqL K H p (bs.map V.str)) (h : Q (.bl (!decide (as = bs))) H) : rEqL K true (.ref l) (.ref p) H Q :=
  ⟨l, p, _, _, rfl, rfl, c, d, by simp [flatV], by simp [flatV], by rw [eqVs_strs]; exact h⟩
noncomputable abbrev s_law : Stmt := top 27
theorem sc_law : FnScope ["_law_script", "_law_handed", "_law_fewest_here", "_law_first", "_law_turn", "_law_told", "_law_items_here"] ["_law_script"] (defScope s_law) := ⟨rfl, rfl, rfl, by decide +kernel, rfl, by decide +kernel, by decide +kernel⟩
theorem ok_law {f : Addr} {fd : FuncData} {cc TT : Addr} (hc : fd.code = .ref cc) (hd : PySem.W.CodeHd base cc TT) (hbt : base.BuiltinsAt mg TT) (F : Fun K "law" "law" s_law f fd) (T : Txt K mg c) (c__law_items : CallF P w K mg base "_law_items" 2 ["_law_script"] (sp__law_items K)) (c__law_fewest : CallF P w K mg base "_law_fewest" 2 ["_law_items_here"] (sp__law_fewest K)) (c_gathered : CallF P w K mg base "gathered" 4 ["items"] (sp_gathered K)) (c_spread : (∃ fs, mg "spread" = some (.ref fs) ∧ PySem.W.keepIn K (.ref fs) = true) ∧ ∀ (base' : Heap) (fl : Addr) (sL : Sp), LamV P w K mg base' 1 fl sL → CallF P w K mg base' "spread" 6 ["words", "most", "fits"] (sp_spread K fl sL)) : FnOk P w K mg base CX0 7 f fd ["_law_script"] (spLawL K TT) := by
  refine Fun.okL F hc sc_law (fun vs H Q E h => ?_) (fun A outer s H vs Q E hr h => ?_)
  · obtain ⟨a, ns, rfl, _⟩ := h
    rfl
  · obtain ⟨a, ns, rfl, sa, hl, hT, k⟩ := h
    have hu := hr.units0
    refine ⟨_, (pss_cons (ps_set (i := 6) sc_law.nd rfl (Or.inr rfl) (pe_callF c__law_items (hr.mono (by decide)) (pa_cons (pv 0) pa_nil)))
      (pss_cons (ps_set (i := 1) sc_law.nd rfl (Or.inl rfl) (pe_callTy (k_list (K := K)) rfl (T.own _ (by decide)) boot_list' (pa_cons (pv 6) pa_nil)))
      (pss_cons (ps_set (i := 2) sc_law.nd rfl (Or.inl rfl) (pe_callF c__law_fewest (hr.mono (by decide)) (pa_cons (pv 6) pa_nil)))
      (pss_cons (ps_set (i := 3) sc_law.nd rfl (Or.inl rfl) (pe_lst pa_nil))
      (pss_cons (ps_for PassesOwn.never rfl (pi_range1 rfl (T.own _ (by decide)) (pa_cons pe_int pa_nil)) (pg_name (i := 4) sc_law.nd rfl (Or.inl rfl)) (pss_cons (ps_set (i := 5) sc_law.nd rfl (Or.inl rfl) (pe_callF c_gathered (hr.mono (by decide)) (pa_cons (pv 1) pa_nil)))
      (pss_cons (ps_if (PW.pt (pw_or (pt_not (pt_val (pe_callB (k_isin (K := K)) rfl (T.own _ (by decide)) boot_isinstance (pa_cons (pv 5) (pa_cons (pe_ty rfl (T.own _ (by decide)) boot_list') pa_nil))))) (pw_or (pt_cmpR op_ne (pe_callB (k_len (K := K)) rfl (T.own _ (by decide)) boot_len (pa_cons (pv 5) pa_nil)) (pv 2) (nomark _)) (pw_or1 (pt_cmpR (k_nel hu (K := K)) (pv 1) (pv 6) (nomark _)))))) (pss_one (ps_ret pe_bl)) pss_nil)
      (pss_cons (ps_if (pt_cmpR (k_nel hu (K := K)) (pe_lam (y := "_law_word") (N := ["_law_items_here"]) (idx := [6]) c_spread.1 c_spread.2 hr ⟨rfl, hd, hbt⟩ (pe_callTy (k_list (K := K)) rfl (T.own _ (by decide)) boot_list' (pa_cons (pv 5) pa_nil)) pe_int (fun _ _ _ _ _ _ _ _ _ hrL => (pe_cmpR (k_in (K := K)) (pv 0) (pv 1) (by with_unfolding_all rfl))) (show lamChk _ _ _ ["_law_script", "_law_handed", "_law_fewest_here", "_law_first", "_law_turn", "_law_told", "_law_items_here"] (defScope s_law).names = true by decide +kernel) (by decide +kernel)) (pv 6) (nomark _)) (pss_one (ps_ret pe_bl)) pss_nil)
      (pss_cons (ps_if (PW.pt (pw_and (pt_cmpR op_gt (pv 4) pe_int (nomark _)) (pw_and1 (pt_cmpR (k_nel hu (K := K)) (pv 5) (pv 3) (nomark _))))) (pss_one (ps_ret pe_bl)) pss_nil)
      (pss_cons (ps_set (i := 3) sc_law.nd rfl (Or.inl rfl) (pe_callTy (k_list (K := K)) rfl (T.own _ (by decide)) boot_list' (pa_cons (pv 5) pa_nil)))
      (pss_one (ps_expr (kx_bm (K := K) PySem.F.plainAttrs_list PySem.F.slot_list_append PySem.F.type_list_append mt_append (pv 5) (pa_cons pe_str pa_nil))))))))))
      (pss_one (ps_ret pe_bl))))))), ?_⟩
    walk_at "w"
    refine ⟨a, ns, rfl, sa, hl, fun H1 p xs s1 hp h1 hne h60 good => ?_⟩
    walk_at "w"
    refine ⟨p, _, rfl, .inl (SqL.of h1), fun h0 hh0 => ?_⟩
    have s2 := same_new (o := HO.lst (xs.map V.str)) hh0
    have g2 : upd H1 h0 (HO.lst (xs.map V.str)) h0 = _ := upd_same
    generalize upd H1 h0 (HO.lst (xs.map V.str)) = H2 at s2 g2 ⊢
    walk_at "w"
    refine ⟨p, xs, rfl, SqL.of (s2 _ _ h1), h60, fun H3 s3 => ?_⟩
    walk_at "w"
    intro q0 hq0
    have s4 := same_new (o := HO.lst []) hq0
    have g4 : upd H3 q0 (HO.lst []) q0 = _ := upd_same
    generalize upd H3 q0 (HO.lst []) = H4 at s4 g4 ⊢
    have sP := s1.trans (s2.trans (s3.trans s4))
    have hT4 := sP _ _ hT
    have hp4 : bar TT H4 p = some (.lst (xs.map V.str)) := bar_some ((s2.trans (s3.trans s4)) _ _ h1) hT4 (fun z => by cases z)
    have hh4 : bar TT H4 h0 = some (.lst (xs.map V.str)) := bar_some ((s3.trans s4) _ _ g2) hT4 (fun z => by cases z)
    obtain ⟨spr, wl⟩ := MFew.W_all (opn := opn) (cls := clS) (plain := fun z => z ∈ goodI ∧ z ∈ xs) (fun z hz => ⟨good z hz, hz⟩) h60 hne
    have wM : (MFew.W opn clS xs 0 xs.length).length ≤ 60 := by
      rw [wl]
      exact Nat.le_trans (MFew.M_le (MFew.cost_len xs)) h60
    have hrun := MFew.run_spr (tms := tms) (fits := fun z => decide (z ∈ xs)) (most := 60) (fun z hz => ⟨(plain_ok z hz.1).1, (plain_ok z hz.1).2.1, decide_eq_true hz.2⟩) (fun t t2 t60 => ⟨(opn_ok t (by omega) t2).1, (opn_ok t (by omega) t2).2.1⟩) spr [] [] [] 0 (by omega)
    rw [List.nil_append] at hrun
    have hshort := spr_short (fun z hz => hz.1) spr
    have hwne := spr.ne hne
    generalize hW : MFew.W opn clS xs 0 xs.length = ws at *
    walk_at "w"
    refine ⟨_, rfl, by decide, by decide, for_srcW (H0 := bar TT H4) (fs_range0 (n := 3)) (fun i σ H5 => ∃ x4 x5 q1, σ = [some (.ref a), some (.ref h0), some (nV (MFew.M xs)), some (.ref q1), x4, x5, some (.ref p)] ∧ Same (bar TT H4) H5 ∧ LamT H5 TT lq ∧ (0 < i → H5 q1 = some (.lst (ws.map V.str)))) ⟨_, _, q0, rfl, bar_same, lam_start hT4, fun z => absurd z (by decide)⟩ (fun i σ H5 ⟨_, _, _, _, s, _⟩ => s) ?_ ?_⟩
    · rintro i σ H5 H6 hi ⟨x4, x5, q1, rfl, s5, lt5, f5⟩ s6
      have sC := s5.trans s6
      have lt6 := lt5.same s6
      walk_at "w"
      refine ⟨h0, xs, rfl, SqL.of (sC _ _ hh4), hne, h60, fun H7 q s7 hq gq => ?_⟩
      rw [hW] at gq
      have lt7 := lt6.same s7
      have s17 := sC.trans s7
      walk_at "w"
      refine rd_isin (.lst gq) (kb (b := true) (by decide +kernel)) ?_
      walk_at "w"
      refine rd_lenL (SqL.of gq) ?_
      walk_at "w"
      rw [List.length_map, wl]
      refine iteN (fun z => absurd rfl z) (fun _ => ?_)
      walk_at "w"
      refine rd_neLS (SqL.of (s17 _ _ hh4)) (SqL.of (s17 _ _ hp4)) ?_
      rw [decide_eq_true rfl]
      walk_at "w"
      refine rd_lam ?_
      walk_at "w"
      refine ⟨q, _, rfl, .inl (SqL.of gq), fun l hl' => ?_⟩
      have s8 := same_new (o := HO.lst (ws.map V.str)) hl'
      have g8 : upd H7 l (HO.lst (ws.map V.str)) l = _ := upd_same
      generalize upd H7 l (HO.lst (ws.map V.str)) = H8 at s8 g8 ⊢
      have lt8 := lt7.same s8
      have s18 := s17.trans s8
      have gq8 := s8 _ _ gq
      walk_at "w"
      refine ⟨lt8, [.ref p], rfl, fun i j hj => ?_, fun H9 fl c' oc lt9 old hc9 => ?_⟩
      · match i, hj with
        | 0, hj =>
          cases hj
          exact ⟨_, rfl, rfl⟩
      have hT8 : ∃ ps, H8 TT = some (.tbl ps) := let ⟨ps, h, _⟩ := lt8; ⟨ps, h⟩
      obtain ⟨ps8, hT8⟩ := hT8
      have nTl : ∀ y ys, H8 y = some (.lst ys) → H9 y = some (.lst ys) := fun y ys e => old y _ (ne_of e hT8 (fun z => by cases z)) e
      have s19 : Same (bar TT H4) H9 := bar_go s18 old
      refine ⟨l, ws, xs, _, fun z => decide (z ∈ xs), rfl, SqL.of (nTl _ _ g8), hwne, by omega, hshort, hrun, fun z hz q1 q2 q3 H' Q' s' hQ => ?_, fun H10 r s10 hr0 g10 => ?_⟩
      · refine ⟨.str z, rfl, s' _ _ hc9, ?_⟩
        walk_at "w"
        refine ⟨p, _, rfl, .inl (SqL.of (s' _ _ (s19 _ _ hp4))), rfl, by simp [flatV], ?_⟩
        have q3 : decide (z ∈ xs) = true := q3
        rw [inV_str, q3]
        exact hQ
      have lt10 := lt9.same s10
      have s110 := s19.trans s10
      have gq10 := s10 _ _ (nTl _ _ gq8)
      walk_at "w"
      refine rd_neLS (SqL.of g10) (SqL.of (s110 _ _ hp4)) ?_
      rw [decide_eq_true rfl]
      walk_at "w"
      have fq : bar TT H4 q = none := sC.free hq
      have rest : ∀ (D : Ends), (∀ σ H', (∃ x4 x5 q1, σ = [some (.ref a), some (.ref h0), some (nV (MFew.M xs)), some (.ref q1), x4, x5, some (.ref p)] ∧ Same (bar TT H4) H' ∧ LamT H' TT lq ∧ (0 < i + 1 → H' q1 = some (.lst (ws.map V.str)))) → D.nx σ H') → tSeq (tAsg (tCB (rListOf K) (tCons (tVar 5) tNil)) (gName 3)) (tDrop (tBM K "list" rAppend (tVar 5) (tCons (tC (V.str (Str.ofString "9"))) tNil))) D [some (.ref a), some (.ref h0), some (nV (MFew.M xs)), some (.ref q1), some (.int ((i : Nat) : Int)), some (.ref q), some (.ref p)] H10 := fun D key => by
        walk_at "w"
        refine ⟨q, _, rfl, .inl (SqL.of gq10), fun l2 hl2 => ?_⟩
        have s11 := same_new (o := HO.lst (ws.map V.str)) hl2
        have g11 : upd H10 l2 (HO.lst (ws.map V.str)) l2 = _ := upd_same
        have nlq : l2 ≠ q := fun z => by rw [z, gq10] at hl2; cases hl2
        generalize upd H10 l2 (HO.lst (ws.map V.str)) = H11 at s11 g11 ⊢
        have gq11 := s11 _ _ gq10
        walk_at "w"
        refine tyL (SqL.of gq11) ?_
        walk_at "w"
        refine rd_app gq11 (by rw [List.length_map]; omega) ?_
        exact key _ _ ⟨_, _, l2, rfl, same_at (s110.trans s11) fq, lamT_upd (lt10.same s11) gq11, fun _ => by rw [upd_ne nlq]; exact g11⟩
      refine iteP (fun h1 => ?_) (fun h1 => ?_)
      · walk_at "w"
        have hf : H10 q1 = some (.lst (ws.map V.str)) := by
          have e5 := f5 (by omega)
          exact s10 _ _ (nTl _ _ (s8 _ _ (s7 _ _ (s6 _ _ e5))))
        refine rd_neLS (SqL.of gq10) (SqL.of hf) ?_
        rw [decide_eq_true rfl]
        refine ⟨_, rfl, ?_⟩
        refine iteNF ?_
        exact rest _ fun σ H' h => h
      · refine iteF ?_
        exact rest _ fun σ H' h => h
    · rintro σ H5 ⟨x4, x5, q1, rfl, s5, lt5, f5⟩
      walk_at "w"
      exact k _
end
end K03
namespace K03
open PySem L2 PySem.Spec PyProof.Rows
theorem all_mk {l : PySem.W.OpenLaw} {w : World} {K : PySem.W.Frag} {h : Heap} {mg : Str → Option Value} {fa : Addr} (X : K.In h) (G : h.Ns mainGlobals mg) (hfa : mg "law" = some (.ref fa))
    {f0 : Addr} {od0 an0 : Option Addr} {sl0 : Array (Option Value)} {oc0 kV0 dc0 pm0 cd0 ct0 : Value}
    {f1 : Addr} {od1 an1 : Option Addr} {sl1 : Array (Option Value)} {oc1 kV1 dc1 pm1 cd1 ct1 : Value}
    {f2 : Addr} {od2 an2 : Option Addr} {sl2 : Array (Option Value)} {oc2 kV2 dc2 pm2 cd2 ct2 : Value}
    {f3 : Addr} {od3 an3 : Option Addr} {sl3 : Array (Option Value)} {oc3 kV3 dc3 pm3 cd3 ct3 : Value}
    {f4 : Addr} {od4 an4 : Option Addr} {sl4 : Array (Option Value)} {oc4 kV4 dc4 pm4 cd4 ct4 : Value}
    {f5 : Addr} {od5 an5 : Option Addr} {sl5 : Array (Option Value)} {oc5 kV5 dc5 pm5 cd5 ct5 : Value}
    {f6 : Addr} {od6 an6 : Option Addr} {sl6 : Array (Option Value)} {oc6 kV6 dc6 pm6 cd6 ct6 : Value}
    {f7 : Addr} {od7 an7 : Option Addr} {sl7 : Array (Option Value)} {oc7 kV7 dc7 pm7 cd7 ct7 : Value}
    {f8 : Addr} {od8 an8 : Option Addr} {sl8 : Array (Option Value)} {oc8 kV8 dc8 pm8 cd8 ct8 : Value}
    {f9 : Addr} {od9 an9 : Option Addr} {sl9 : Array (Option Value)} {oc9 kV9 dc9 pm9 cd9 ct9 : Value}
    {f10 : Addr} {od10 an10 : Option Addr} {sl10 : Array (Option Value)} {oc10 kV10 dc10 pm10 cd10 ct10 : Value}
    {f11 : Addr} {od11 an11 : Option Addr} {sl11 : Array (Option Value)} {oc11 kV11 dc11 pm11 cd11 ct11 : Value}
    {f12 : Addr} {od12 an12 : Option Addr} {sl12 : Array (Option Value)} {oc12 kV12 dc12 pm12 cd12 ct12 : Value}
    {f13 : Addr} {od13 an13 : Option Addr} {sl13 : Array (Option Value)} {oc13 kV13 dc13 pm13 cd13 ct13 : Value}
    {f14 : Addr} {od14 an14 : Option Addr} {sl14 : Array (Option Value)} {oc14 kV14 dc14 pm14 cd14 ct14 : Value}
    {f15 : Addr} {od15 an15 : Option Addr} {sl15 : Array (Option Value)} {oc15 kV15 dc15 pm15 cd15 ct15 : Value}
    {tk0 : Tok}
    {tk1 : Tok}
    {tk2 : Tok}
    {tk3 : Tok}
    {tk4 : Tok}
    {tk5 : Tok}
    {cc TT : Addr} {ts : List Addr}
    (a0 : PySem.W.nsIn K mainGlobals "is_whole" = some (some (.ref f0)))
    (l0 : K.lookup f0 = some ⟨oc0, od0, .func (PySem.W.fnOf "is_whole" "is_whole" (defArgs s_is_whole) (defBody s_is_whole) (defScope s_is_whole) .none kV0 dc0 pm0 an0 cd0 ct0), sl0⟩)
    (c0 : PySem.W.codeIn K cd0 "is_whole" = true)
    (k0 : PySem.W.keepIn K (.ref f0) = true)
    (a1 : PySem.W.nsIn K mainGlobals "is_among" = some (some (.ref f1)))
    (l1 : K.lookup f1 = some ⟨oc1, od1, .func (PySem.W.fnOf "is_among" "is_among" (defArgs s_is_among) (defBody s_is_among) (defScope s_is_among) .none kV1 dc1 pm1 an1 cd1 ct1), sl1⟩)
    (c1 : PySem.W.codeIn K cd1 "is_among" = true)
    (k1 : PySem.W.keepIn K (.ref f1) = true)
    (a2 : PySem.W.nsIn K mainGlobals "number_of" = some (some (.ref f2)))
    (l2 : K.lookup f2 = some ⟨oc2, od2, .func (PySem.W.fnOf "number_of" "number_of" (defArgs s_number_of) (defBody s_number_of) (defScope s_number_of) .none kV2 dc2 pm2 an2 cd2 ct2), sl2⟩)
    (c2 : PySem.W.codeIn K cd2 "number_of" = true)
    (k2 : PySem.W.keepIn K (.ref f2) = true)
    (a3 : PySem.W.nsIn K mainGlobals "number_text" = some (some (.ref f3)))
    (l3 : K.lookup f3 = some ⟨oc3, od3, .func (PySem.W.fnOf "number_text" "number_text" (defArgs s_number_text) (defBody s_number_text) (defScope s_number_text) .none kV3 dc3 pm3 an3 cd3 ct3), sl3⟩)
    (c3 : PySem.W.codeIn K cd3 "number_text" = true)
    (k3 : PySem.W.keepIn K (.ref f3) = true)
    (a4 : PySem.W.nsIn K mainGlobals "times_of" = some (some (.ref f4)))
    (l4 : K.lookup f4 = some ⟨oc4, od4, .func (PySem.W.fnOf "times_of" "times_of" (defArgs s_times_of) (defBody s_times_of) (defScope s_times_of) .none kV4 dc4 pm4 an4 cd4 ct4), sl4⟩)
    (c4 : PySem.W.codeIn K cd4 "times_of" = true)
    (k4 : PySem.W.keepIn K (.ref f4) = true)
    (a5 : PySem.W.nsIn K mainGlobals "can_stand" = some (some (.ref f5)))
    (l5 : K.lookup f5 = some ⟨oc5, od5, .func (PySem.W.fnOf "can_stand" "can_stand" (defArgs s_can_stand) (defBody s_can_stand) (defScope s_can_stand) .none kV5 dc5 pm5 an5 cd5 ct5), sl5⟩)
    (c5 : PySem.W.codeIn K cd5 "can_stand" = true)
    (k5 : PySem.W.keepIn K (.ref f5) = true)
    (a6 : PySem.W.nsIn K mainGlobals "taken" = some (some (.ref f6)))
    (l6 : K.lookup f6 = some ⟨oc6, od6, .func (PySem.W.fnOf "taken" "taken" (defArgs s_taken) (defBody s_taken) (defScope s_taken) .none kV6 dc6 pm6 an6 cd6 ct6), sl6⟩)
    (c6 : PySem.W.codeIn K cd6 "taken" = true)
    (k6 : PySem.W.keepIn K (.ref f6) = true)
    (a7 : PySem.W.nsIn K mainGlobals "spread" = some (some (.ref f7)))
    (l7 : K.lookup f7 = some ⟨oc7, od7, .func (PySem.W.fnOf "spread" "spread" (defArgs s_spread) (defBody s_spread) (defScope s_spread) .none kV7 dc7 pm7 an7 cd7 ct7), sl7⟩)
    (c7 : PySem.W.codeIn K cd7 "spread" = true)
    (k7 : PySem.W.keepIn K (.ref f7) = true)
    (a8 : PySem.W.nsIn K mainGlobals "as_group" = some (some (.ref f8)))
    (l8 : K.lookup f8 = some ⟨oc8, od8, .func (PySem.W.fnOf "as_group" "as_group" (defArgs s_as_group) (defBody s_as_group) (defScope s_as_group) .none kV8 dc8 pm8 an8 cd8 ct8), sl8⟩)
    (c8 : PySem.W.codeIn K cd8 "as_group" = true)
    (k8 : PySem.W.keepIn K (.ref f8) = true)
    (a9 : PySem.W.nsIn K mainGlobals "fewest_words" = some (some (.ref f9)))
    (l9 : K.lookup f9 = some ⟨oc9, od9, .func (PySem.W.fnOf "fewest_words" "fewest_words" (defArgs s_fewest_words) (defBody s_fewest_words) (defScope s_fewest_words) .none kV9 dc9 pm9 an9 cd9 ct9), sl9⟩)
    (c9 : PySem.W.codeIn K cd9 "fewest_words" = true)
    (k9 : PySem.W.keepIn K (.ref f9) = true)
    (a10 : PySem.W.nsIn K mainGlobals "gathered" = some (some (.ref f10)))
    (l10 : K.lookup f10 = some ⟨oc10, od10, .func (PySem.W.fnOf "gathered" "gathered" (defArgs s_gathered) (defBody s_gathered) (defScope s_gathered) .none kV10 dc10 pm10 an10 cd10 ct10), sl10⟩)
    (c10 : PySem.W.codeIn K cd10 "gathered" = true)
    (k10 : PySem.W.keepIn K (.ref f10) = true)
    (a11 : PySem.W.nsIn K mainGlobals "_law_mixed" = some (some (.ref f11)))
    (l11 : K.lookup f11 = some ⟨oc11, od11, .func (PySem.W.fnOf "_law_mixed" "_law_mixed" (defArgs s__law_mixed) (defBody s__law_mixed) (defScope s__law_mixed) .none kV11 dc11 pm11 an11 cd11 ct11), sl11⟩)
    (c11 : PySem.W.codeIn K cd11 "_law_mixed" = true)
    (k11 : PySem.W.keepIn K (.ref f11) = true)
    (a12 : PySem.W.nsIn K mainGlobals "_law_items" = some (some (.ref f12)))
    (l12 : K.lookup f12 = some ⟨oc12, od12, .func (PySem.W.fnOf "_law_items" "_law_items" (defArgs s__law_items) (defBody s__law_items) (defScope s__law_items) .none kV12 dc12 pm12 an12 cd12 ct12), sl12⟩)
    (c12 : PySem.W.codeIn K cd12 "_law_items" = true)
    (k12 : PySem.W.keepIn K (.ref f12) = true)
    (a13 : PySem.W.nsIn K mainGlobals "_law_most" = some (some (.ref f13)))
    (l13 : K.lookup f13 = some ⟨oc13, od13, .func (PySem.W.fnOf "_law_most" "_law_most" (defArgs s__law_most) (defBody s__law_most) (defScope s__law_most) .none kV13 dc13 pm13 an13 cd13 ct13), sl13⟩)
    (c13 : PySem.W.codeIn K cd13 "_law_most" = true)
    (k13 : PySem.W.keepIn K (.ref f13) = true)
    (a14 : PySem.W.nsIn K mainGlobals "_law_fewest" = some (some (.ref f14)))
    (l14 : K.lookup f14 = some ⟨oc14, od14, .func (PySem.W.fnOf "_law_fewest" "_law_fewest" (defArgs s__law_fewest) (defBody s__law_fewest) (defScope s__law_fewest) .none kV14 dc14 pm14 an14 cd14 ct14), sl14⟩)
    (c14 : PySem.W.codeIn K cd14 "_law_fewest" = true)
    (k14 : PySem.W.keepIn K (.ref f14) = true)
    (a15 : PySem.W.nsIn K mainGlobals "law" = some (some (.ref f15)))
    (l15 : K.lookup f15 = some ⟨oc15, od15, .func (PySem.W.fnOf "law" "law" (defArgs s_law) (defBody s_law) (defScope s_law) .none kV15 dc15 pm15 an15 cd15 ct15), sl15⟩)
    (c15 : PySem.W.codeIn K cd15 "law" = true)
    (k15 : PySem.W.keepIn K (.ref f15) = true)
    (z0 : PySem.W.nsIn K mainGlobals "isinstance" = some none)
    (z1 : PySem.W.nsIn K mainGlobals "int" = some none)
    (z2 : PySem.W.nsIn K mainGlobals "bool" = some none)
    (z3 : PySem.W.nsIn K mainGlobals "str" = some none)
    (z4 : PySem.W.nsIn K mainGlobals "list" = some none)
    (z5 : PySem.W.nsIn K mainGlobals "len" = some none)
    (z6 : PySem.W.nsIn K mainGlobals "all" = some none)
    (z7 : PySem.W.nsIn K mainGlobals "range" = some none)
    (z8 : PySem.W.nsIn K mainGlobals "sum" = some none)
    (z9 : PySem.W.nsIn K mainGlobals "enumerate" = some none)
    (z10 : PySem.W.nsIn K mainGlobals "min" = some none)
    (y0 : PySem.W.nsIn K mainGlobals "FIGURES" = some (some (.str "0123456789" tk0)))
    (y1 : PySem.W.nsIn K mainGlobals "MOST_FIGURES" = some (some (.int 3 tk1)))
    (y2 : PySem.W.nsIn K mainGlobals "LEAST_TIMES" = some (some (.int 2 tk2)))
    (y3 : PySem.W.nsIn K mainGlobals "MOST_TIMES" = some (some (.int 60 tk3)))
    (y4 : PySem.W.nsIn K mainGlobals "OPENING" = some (some (.str "(" tk4)))
    (y5 : PySem.W.nsIn K mainGlobals "CLOSING" = some (some (.str ")" tk5)))
    (hcc : cd15 = .ref cc)
    (hmem : TT ∈ ts)
    (hhd : PySem.W.codeHdIn K cc TT = true)
    (hns : TT ≠ PySem.cStatics)
    : ∃ (fd : FuncData) (c T : Addr), (∀ (s : Shared) (u : Value), BindsTo s fd ⟨[u], []⟩ [("_law_script", u)]) ∧ T ∈ ts ∧ T ≠ PySem.cStatics ∧ (∀ h' : Heap, K.In h' → PySem.W.CodeHd h' c T) ∧ ∀ base : Heap, K.In base → base.Ns mainGlobals mg → PySem.W.CodeHd base c T → base.BuiltinsAt mg T → FnOk l.prog w K mg base CX0 7 fa fd ["_law_script"] (spLawL K T) := by
  subst hcc
  have e := hfa.symm.trans (PySem.W.mg_of X G a15)
  cases e
  have F0 := fun_mk (st := s_is_whole) l0 c0 k0
  have B0 := F0.binds (ps := ["thing"]) fun _ _ _ _ _ _ => arg1 fun _ => rfl
  have D0 : DefAt K mg "is_whole" s_is_whole ["thing"] _ _ := ⟨F0, PySem.W.mg_of X G a0, B0⟩
  have F1 := fun_mk (st := s_is_among) l1 c1 k1
  have B1 := F1.binds (ps := ["thing", "least", "most"]) fun _ _ _ _ _ _ => arg3 fun _ _ _ => rfl
  have D1 : DefAt K mg "is_among" s_is_among ["thing", "least", "most"] _ _ := ⟨F1, PySem.W.mg_of X G a1, B1⟩
  have F2 := fun_mk (st := s_number_of) l2 c2 k2
  have B2 := F2.binds (ps := ["word"]) fun _ _ _ _ _ _ => arg1 fun _ => rfl
  have D2 : DefAt K mg "number_of" s_number_of ["word"] _ _ := ⟨F2, PySem.W.mg_of X G a2, B2⟩
  have F3 := fun_mk (st := s_number_text) l3 c3 k3
  have B3 := F3.binds (ps := ["number"]) fun _ _ _ _ _ _ => arg1 fun _ => rfl
  have D3 : DefAt K mg "number_text" s_number_text ["number"] _ _ := ⟨F3, PySem.W.mg_of X G a3, B3⟩
  have F4 := fun_mk (st := s_times_of) l4 c4 k4
  have B4 := F4.binds (ps := ["word"]) fun _ _ _ _ _ _ => arg1 fun _ => rfl
  have D4 : DefAt K mg "times_of" s_times_of ["word"] _ _ := ⟨F4, PySem.W.mg_of X G a4, B4⟩
  have F5 := fun_mk (st := s_can_stand) l5 c5 k5
  have B5 := F5.binds (ps := ["word", "held", "times", "fits"]) fun _ _ _ _ _ _ => arg4 fun _ _ _ _ => rfl
  have D5 : DefAt K mg "can_stand" s_can_stand ["word", "held", "times", "fits"] _ _ := ⟨F5, PySem.W.mg_of X G a5, B5⟩
  have F6 := fun_mk (st := s_taken) l6 c6 k6
  have B6 := F6.binds (ps := ["word", "held", "times"]) fun _ _ _ _ _ _ => arg3 fun _ _ _ => rfl
  have D6 : DefAt K mg "taken" s_taken ["word", "held", "times"] _ _ := ⟨F6, PySem.W.mg_of X G a6, B6⟩
  have F7 := fun_mk (st := s_spread) l7 c7 k7
  have B7 := F7.binds (ps := ["words", "most", "fits"]) fun _ _ _ _ _ _ => arg3 fun _ _ _ => rfl
  have D7 : DefAt K mg "spread" s_spread ["words", "most", "fits"] _ _ := ⟨F7, PySem.W.mg_of X G a7, B7⟩
  have F8 := fun_mk (st := s_as_group) l8 c8 k8
  have B8 := F8.binds (ps := ["items", "first", "behind", "told"]) fun _ _ _ _ _ _ => arg4 fun _ _ _ _ => rfl
  have D8 : DefAt K mg "as_group" s_as_group ["items", "first", "behind", "told"] _ _ := ⟨F8, PySem.W.mg_of X G a8, B8⟩
  have F9 := fun_mk (st := s_fewest_words) l9 c9 k9
  have B9 := F9.binds (ps := ["items", "first", "behind", "told"]) fun _ _ _ _ _ _ => arg4 fun _ _ _ _ => rfl
  have D9 : DefAt K mg "fewest_words" s_fewest_words ["items", "first", "behind", "told"] _ _ := ⟨F9, PySem.W.mg_of X G a9, B9⟩
  have F10 := fun_mk (st := s_gathered) l10 c10 k10
  have B10 := F10.binds (ps := ["items"]) fun _ _ _ _ _ _ => arg1 fun _ => rfl
  have D10 : DefAt K mg "gathered" s_gathered ["items"] _ _ := ⟨F10, PySem.W.mg_of X G a10, B10⟩
  have F11 := fun_mk (st := s__law_mixed) l11 c11 k11
  have B11 := F11.binds (ps := ["_law_cell", "_law_k"]) fun _ _ _ _ _ _ => arg2 fun _ _ => rfl
  have D11 : DefAt K mg "_law_mixed" s__law_mixed ["_law_cell", "_law_k"] _ _ := ⟨F11, PySem.W.mg_of X G a11, B11⟩
  have F12 := fun_mk (st := s__law_items) l12 c12 k12
  have B12 := F12.binds (ps := ["_law_script"]) fun _ _ _ _ _ _ => arg1 fun _ => rfl
  have D12 : DefAt K mg "_law_items" s__law_items ["_law_script"] _ _ := ⟨F12, PySem.W.mg_of X G a12, B12⟩
  have F13 := fun_mk (st := s__law_most) l13 c13 k13
  have B13 := F13.binds (ps := ["_law_items_here", "_law_begin", "_law_size", "_law_end"]) fun _ _ _ _ _ _ => arg4 fun _ _ _ _ => rfl
  have D13 : DefAt K mg "_law_most" s__law_most ["_law_items_here", "_law_begin", "_law_size", "_law_end"] _ _ := ⟨F13, PySem.W.mg_of X G a13, B13⟩
  have F14 := fun_mk (st := s__law_fewest) l14 c14 k14
  have B14 := F14.binds (ps := ["_law_items_here"]) fun _ _ _ _ _ _ => arg1 fun _ => rfl
  have D14 : DefAt K mg "_law_fewest" s__law_fewest ["_law_items_here"] _ _ := ⟨F14, PySem.W.mg_of X G a14, B14⟩
  have F15 := fun_mk (st := s_law) l15 c15 k15
  have B15 := F15.binds (ps := ["_law_script"]) fun _ _ _ _ _ _ => arg1 fun _ => rfl
  have D15 : DefAt K mg "law" s_law ["_law_script"] _ _ := ⟨F15, PySem.W.mg_of X G a15, B15⟩
  have T : Txt K mg ⟨()⟩ := {
    own := fun x hx => by
      simp only [List.mem_cons, List.not_mem_nil, or_false] at hx
      rcases hx with rfl | rfl | rfl | rfl | rfl | rfl | rfl | rfl | rfl | rfl | rfl
      · exact PySem.W.mg_none_of X G z0
      · exact PySem.W.mg_none_of X G z1
      · exact PySem.W.mg_none_of X G z2
      · exact PySem.W.mg_none_of X G z3
      · exact PySem.W.mg_none_of X G z4
      · exact PySem.W.mg_none_of X G z5
      · exact PySem.W.mg_none_of X G z6
      · exact PySem.W.mg_none_of X G z7
      · exact PySem.W.mg_none_of X G z8
      · exact PySem.W.mg_none_of X G z9
      · exact PySem.W.mg_none_of X G z10
    k_FIGURES := ⟨_, PySem.W.mg_of X G y0⟩
    k_MOST_FIGURES := ⟨_, PySem.W.mg_of X G y1⟩
    k_LEAST_TIMES := ⟨_, PySem.W.mg_of X G y2⟩
    k_MOST_TIMES := ⟨_, PySem.W.mg_of X G y3⟩
    k_OPENING := ⟨_, PySem.W.mg_of X G y4⟩
    k_CLOSING := ⟨_, PySem.W.mg_of X G y5⟩
  }
  exact ⟨_, cc, TT, fun s v => .of_eq rfl, hmem, hns, fun _ X2 => PySem.W.codeHd_of_K X2 hhd, fun base _ _ hd hbt => by
    have c_is_whole := D0.call (ok_is_whole (P := l.prog) (w := w) (base := base) F0 T)
    have c_is_among := D1.call (ok_is_among (P := l.prog) (w := w) (base := base) F1 T c_is_whole)
    have c_number_of := D2.call (ok_number_of (P := l.prog) (w := w) (base := base) F2 T c_is_among)
    have c_number_text := D3.call (ok_number_text (P := l.prog) (w := w) (base := base) F3 T)
    have c_times_of := D4.call (ok_times_of (P := l.prog) (w := w) (base := base) F4 T c_number_of c_is_among)
    have c_can_stand : (∃ fs, mg "can_stand" = some (.ref fs) ∧ PySem.W.keepIn K (.ref fs) = true) ∧ ∀ (base' : Heap) (fl : Addr) (sL : Sp), LamV l.prog w K mg base' 1 fl sL → CallF l.prog w K mg base' "can_stand" 5 ["word", "held", "times", "fits"] (sp_can_stand fl sL) := ⟨⟨_, D5.at', k5⟩, fun base' fl sL lv => by
      have c_is_whole := D0.call (ok_is_whole (P := l.prog) (w := w) (base := base') F0 T)
      have c_is_among := D1.call (ok_is_among (P := l.prog) (w := w) (base := base') F1 T c_is_whole)
      have c_number_of := D2.call (ok_number_of (P := l.prog) (w := w) (base := base') F2 T c_is_among)
      have c_times_of := D4.call (ok_times_of (P := l.prog) (w := w) (base := base') F4 T c_number_of c_is_among)
      have c_can_stand := D5.call (ok_can_stand (P := l.prog) (w := w) (base := base') lv F5 T c_times_of)
      exact c_can_stand⟩
    have c_taken := D6.call (ok_taken (P := l.prog) (w := w) (base := base) F6 T c_times_of)
    have c_spread : (∃ fs, mg "spread" = some (.ref fs) ∧ PySem.W.keepIn K (.ref fs) = true) ∧ ∀ (base' : Heap) (fl : Addr) (sL : Sp), LamV l.prog w K mg base' 1 fl sL → CallF l.prog w K mg base' "spread" 6 ["words", "most", "fits"] (sp_spread K fl sL) := ⟨⟨_, D7.at', k7⟩, fun base' fl sL lv => by
      have c_is_whole := D0.call (ok_is_whole (P := l.prog) (w := w) (base := base') F0 T)
      have c_is_among := D1.call (ok_is_among (P := l.prog) (w := w) (base := base') F1 T c_is_whole)
      have c_number_of := D2.call (ok_number_of (P := l.prog) (w := w) (base := base') F2 T c_is_among)
      have c_times_of := D4.call (ok_times_of (P := l.prog) (w := w) (base := base') F4 T c_number_of c_is_among)
      have c_can_stand := D5.call (ok_can_stand (P := l.prog) (w := w) (base := base') lv F5 T c_times_of)
      have c_taken := D6.call (ok_taken (P := l.prog) (w := w) (base := base') F6 T c_times_of)
      have c_spread := D7.call (ok_spread (P := l.prog) (w := w) (base := base') lv F7 T c_can_stand c_taken)
      exact c_spread⟩
    have c_as_group := D8.call (ok_as_group (P := l.prog) (w := w) (base := base) F8 T c_number_text)
    have c_fewest_words := D9.call (ok_fewest_words (P := l.prog) (w := w) (base := base) F9 T c_as_group)
    have c_gathered := D10.call (ok_gathered (P := l.prog) (w := w) (base := base) F10 T c_fewest_words)
    have c__law_mixed := D11.call (ok__law_mixed (P := l.prog) (w := w) (base := base) F11 T)
    have c__law_items := D12.call (ok__law_items (P := l.prog) (w := w) (base := base) F12 T c__law_mixed)
    have c__law_most := D13.call (ok__law_most (P := l.prog) (w := w) (base := base) F13 T)
    have c__law_fewest := D14.call (ok__law_fewest (P := l.prog) (w := w) (base := base) F14 T c__law_most)
    exact ok_law rfl hd hbt F15 T c__law_items c__law_fewest c_gathered c_spread
    ⟩
theorem walk {l : PySem.W.OpenLaw} {q : Program} {loose : List Str} {XP : (Str → Option Value) → Heap → Prop} {YP : World → Heap → Prop} {d : DefRec} {K : Params → PySem.W.Frag} (hn : l.most = some 63) (hdf : d.params.defaults = [])
    (hY : ∀ (w : World) (h : Heap), YP w h → (K w.params).In h)
    {ts : List Addr} (hYt : ∀ (w : World) (h : Heap), YP w h → ∀ P ∈ ts, h.get? P = some (PySem.W.tabObj #[])) (hnt : ∀ w : World, PySem.W.noTabs (K w.params) = true)
    (F : ∀ (w : World) (mg : Str → Option Value) (fa : Addr) (h : Heap), (K w.params).In h → h.Ns mainGlobals mg → mg d.name = some (.ref fa) →
      ∃ (fd : FuncData) (c T : Addr), (∀ (s : Shared) (u : Value), BindsTo s fd ⟨[u], []⟩ [("_law_script", u)]) ∧ T ∈ ts ∧ T ≠ PySem.cStatics ∧ (∀ h' : Heap, (K w.params).In h' → PySem.W.CodeHd h' c T) ∧ ∀ base : Heap, (K w.params).In base → base.Ns mainGlobals mg → PySem.W.CodeHd base c T → base.BuiltinsAt mg T → FnOk l.prog w (K w.params) mg base CX0 7 fa fd ["_law_script"] (spLawL (K w.params) T)) :
    PySem.W.WalkO q loose XP YP l.row.toRowW d [] (fun f vs => PySem.call f vs) :=
  L2.walk_ofL (n := 63) (k := 7) (x := "_law_script") (CX := fun _ => CX0) (sp := fun w T => spLawL (K w.params) T) hn (by decide) hdf ⟨rfl, by decide, by decide⟩ hY hYt hnt F (fun _ _ a _ ns hl _ hT hS => ⟨a, ns, rfl, hS, hl, hT, fun _ => rfl⟩) fun _ _ _ _ _ z => z
end K03
open PySem PySem.W PyProof.Rows
set_option maxRecDepth 100000 in
set_option maxHeartbeats 0 in
theorem PySem.Challenge.cw_loomwright_k03_whole_fewest_words_holds : PySem.Challenge.rw_loomwright_k03_whole_fewest_words.Holds := by
  w_on; o_law; k_head; (case hw => w_witness2)
  k_fill
  refine K03.walk (l := PySem.Challenge.rw_loomwright_k03_whole_fewest_words) rfl rfl (fun w h Y => PySem.W.km_in_of Y) (fun w h Y => PySem.W.km_tabs_of Y) (fun w => by kernel_rfl) ?F
  case F =>
    intro w mg fa h KX G hmg
    refine' K03.all_mk KX G hmg ?a0 ?l0 ?c0 ?k0 ?a1 ?l1 ?c1 ?k1 ?a2 ?l2 ?c2 ?k2 ?a3 ?l3 ?c3 ?k3 ?a4 ?l4 ?c4 ?k4 ?a5 ?l5 ?c5 ?k5 ?a6 ?l6 ?c6 ?k6 ?a7 ?l7 ?c7 ?k7 ?a8 ?l8 ?c8 ?k8 ?a9 ?l9 ?c9 ?k9 ?a10 ?l10 ?c10 ?k10 ?a11 ?l11 ?c11 ?k11 ?a12 ?l12 ?c12 ?k12 ?a13 ?l13 ?c13 ?k13 ?a14 ?l14 ?c14 ?k14 ?a15 ?l15 ?c15 ?k15 ?z0 ?z1 ?z2 ?z3 ?z4 ?z5 ?z6 ?z7 ?z8 ?z9 ?z10 ?y0 ?y1 ?y2 ?y3 ?y4 ?y5 ?hcc ?hmem ?hhd ?hns
    (case a0 => k_is)
    (case l0 => k_is)
    (case c0 => k_is)
    (case k0 => k_is)
    (case a1 => k_is)
    (case l1 => k_is)
    (case c1 => k_is)
    (case k1 => k_is)
    (case a2 => k_is)
    (case l2 => k_is)
    (case c2 => k_is)
    (case k2 => k_is)
    (case a3 => k_is)
    (case l3 => k_is)
    (case c3 => k_is)
    (case k3 => k_is)
    (case a4 => k_is)
    (case l4 => k_is)
    (case c4 => k_is)
    (case k4 => k_is)
    (case a5 => k_is)
    (case l5 => k_is)
    (case c5 => k_is)
    (case k5 => k_is)
    (case a6 => k_is)
    (case l6 => k_is)
    (case c6 => k_is)
    (case k6 => k_is)
    (case a7 => k_is)
    (case l7 => k_is)
    (case c7 => k_is)
    (case k7 => k_is)
    (case a8 => k_is)
    (case l8 => k_is)
    (case c8 => k_is)
    (case k8 => k_is)
    (case a9 => k_is)
    (case l9 => k_is)
    (case c9 => k_is)
    (case k9 => k_is)
    (case a10 => k_is)
    (case l10 => k_is)
    (case c10 => k_is)
    (case k10 => k_is)
    (case a11 => k_is)
    (case l11 => k_is)
    (case c11 => k_is)
    (case k11 => k_is)
    (case a12 => k_is)
    (case l12 => k_is)
    (case c12 => k_is)
    (case k12 => k_is)
    (case a13 => k_is)
    (case l13 => k_is)
    (case c13 => k_is)
    (case k13 => k_is)
    (case a14 => k_is)
    (case l14 => k_is)
    (case c14 => k_is)
    (case k14 => k_is)
    (case a15 => k_is)
    (case l15 => k_is)
    (case c15 => k_is)
    (case k15 => k_is)
    (case z0 => k_is)
    (case z1 => k_is)
    (case z2 => k_is)
    (case z3 => k_is)
    (case z4 => k_is)
    (case z5 => k_is)
    (case z6 => k_is)
    (case z7 => k_is)
    (case z8 => k_is)
    (case z9 => k_is)
    (case z10 => k_is)
    (case y0 => k_is)
    (case y1 => k_is)
    (case y2 => k_is)
    (case y3 => k_is)
    (case y4 => k_is)
    (case y5 => k_is)
    (case hcc => rfl)
    (case hmem => exact List.mem_cons_self)
    (case hhd => kernel_rfl)
    (case hns => decide)
