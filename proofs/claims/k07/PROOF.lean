import PyProof.Rows.All
import Wide.All
import OpenK.AllK
import Wide.FinOn
import Lean
import PyProof.EqAt
import PyProof.EqKinds
import PyProof.TupleCall
import KE.KIntText
import PyProof.EnumFor
import PyProof.EnumMake
import PyProof.ZipIter
import PyProof.LayNew
import KE.KTurns
import PyProof.Rows.Range3
import KE.KRevSl
import KE.KDictList
import PyProof.Draws
import PyProof.Rows.RuleM_int
import PyProof.Rows.BitMore
import PyProof.NeKinds
import KE.KRevIter
import PyProof.JoinWalk
import KE.KTryMore
import PyProof.ExcArgs
import OpenK.KOwn
import PyProof.ExcBaseAll.ValueError
import KE.KLam
import KE.KNestM
import PyProof.Rows.SetFrom
import PySem.Challenge.RW_loomwright_k07_whole_fewest_ties
set_option Elab.async false
set_option linter.all false
set_option maxRecDepth 100000
set_option maxHeartbeats 4000000
namespace L2
open PySem PySem.Spec PyProof.Rows
noncomputable abbrev Key := Sum Int Str
noncomputable def keyIs : Key → Value → Bool
  | .inl k, v => Value.isInt k v
  | .inr x, v => Value.isStrOf x v
noncomputable def keyH (w : World) : Key → Int
  | .inl k => hashInt k
  | .inr x => hashStr w x
theorem keyIs_shape : ∀ {k : Key} {v : Value}, keyIs k v = true → (∃ i t, k = Sum.inl i ∧ v = Value.int i t) ∨ (∃ x t, k = Sum.inr x ∧ v = Value.str x t)
  | .inl i, v, h => by
    obtain ⟨t, e⟩ := Value.isInt_shape (k := i) (v := v) h
    exact .inl ⟨i, t, rfl, e⟩
  | .inr x, v, h => by
    obtain ⟨t, e⟩ := Value.isStrOf_shape (x := x) (v := v) h
    exact .inr ⟨x, t, rfl, e⟩
theorem keyIs_int (i : Int) (t : Tok) : keyIs (.inl i) (.int i t) = true := by simp [keyIs, Value.isInt]
theorem keyIs_str (x : Str) (t : Tok) : keyIs (.inr x) (.str x t) = true := by simp [keyIs, Value.isStrOf]
theorem key_ll (a b : Int) : decide ((Sum.inl a : Key) = Sum.inl b) = (a == b) := by
  by_cases e : a = b
  · subst e; simp
  · have h : ¬ (Sum.inl a : Key) = Sum.inl b := fun q => e (Sum.inl.inj q)
    rw [decide_eq_false h]
    exact (beq_eq_false_iff_ne.mpr e).symm
theorem key_rr (a b : Str) : decide ((Sum.inr a : Key) = Sum.inr b) = decide (a = b) := by
  by_cases e : a = b
  · subst e; simp
  · have h : ¬ (Sum.inr a : Key) = Sum.inr b := fun q => e (Sum.inr.inj q)
    rw [decide_eq_false h, decide_eq_false e]
theorem key_lr (a : Int) (b : Str) : decide ((Sum.inl a : Key) = Sum.inr b) = false := decide_eq_false (fun q => nomatch q)
theorem key_rl (a : Str) (b : Int) : decide ((Sum.inr a : Key) = Sum.inl b) = false := decide_eq_false (fun q => nomatch q)
noncomputable def mixKind (prog : Program) (w : World) : PySem.KeyKind prog w Key where
  is := keyIs
  hash := keyH w
  inj := fun v a b ha hb => by
    rcases keyIs_shape ha with ⟨i, t, rfl, rfl⟩ | ⟨x, t, rfl, rfl⟩
    · rcases keyIs_shape hb with ⟨j, u, rfl, e⟩ | ⟨y, u, rfl, e⟩
      · injection e with e1 _; rw [e1]
      · exact nomatch e
    · rcases keyIs_shape hb with ⟨j, u, rfl, e⟩ | ⟨y, u, rfl, e⟩
      · exact nomatch e
      · injection e with e1 _; rw [e1]
  byValue := fun k v h => by
    rcases keyIs_shape h with ⟨i, t, rfl, rfl⟩ | ⟨x, t, rfl, rfl⟩ <;> rfl
  pyHash := fun hv h => by
    rcases keyIs_shape hv with ⟨i, t, rfl, rfl⟩ | ⟨x, t, rfl, rfl⟩
    · exact wpAny_pyHash_int h
    · exact wpAny_pyHash_str h
  eqBool := fun hu hv h => by
    rcases keyIs_shape hu with ⟨i, t, rfl, rfl⟩ | ⟨x, t, rfl, rfl⟩
    · rcases keyIs_shape hv with ⟨j, u, rfl, rfl⟩ | ⟨y, u, rfl, rfl⟩
      · rw [key_ll] at h; exact wpAny_eqBool_int h
      · rw [key_lr] at h; exact SeqAt.EqAt.int_str i t y u _ _ _ _ h
    · rcases keyIs_shape hv with ⟨j, u, rfl, rfl⟩ | ⟨y, u, rfl, rfl⟩
      · rw [key_rl] at h; exact SeqAt.EqAt.str_int x t j u _ _ _ _ h
      · rw [key_rr] at h; exact wpAny_eqBool_str h
  «strs» := fun k x t v h => by
    rcases keyIs_shape h with ⟨i, u, rfl, e⟩ | ⟨y, u, rfl, e⟩
    · exact nomatch e
    · injection e with e1 _
      subst e1
      cases v <;> rfl
theorem mixKind_int (prog : Program) (w : World) (i : Int) (t : Tok) : (mixKind prog w).is (.inl i) (.int i t) = true := keyIs_int i t
theorem mixKind_str (prog : Program) (w : World) (x : Str) (t : Tok) : (mixKind prog w).is (.inr x) (.str x t) = true := keyIs_str x t
end L2
namespace L2
open PySem PySem.Spec PyProof.Rows
inductive V where
  | non | bl (b : Bool) | int (i : Int) | str (x : Str) | byt (b : Array UInt8) | flt (b : UInt64) | ref (a : Addr) | ty (n : String)
  deriving DecidableEq
noncomputable def RelV : V → Value → Prop
  | .non, u => u = Value.none
  | .bl b, u => u = Value.bool b
  | .int i, u => ∃ t, u = Value.int i t
  | .str x, u => ∃ t, u = Value.str x t
  | .byt b, u => ∃ t, u = Value.bytes b t
  | .flt b, u => ∃ t, u = Value.float b t
  | .ref a, u => u = Value.ref a
  | .ty n, u => u = Value.type n
noncomputable abbrev Vals : List V → List Value → Prop := Paired RelV
theorem Vals.length {xs : List V} {us : List Value} (r : Vals xs us) : xs.length = us.length := Paired.length r
theorem Vals.get : ∀ {xs : List V} {us : List Value} {i : Nat} {x : V}, Vals xs us → xs[i]? = some x → ∃ u, us[i]? = some u ∧ RelV x u
  | _, _, _, _, .nil, e => by simp at e
  | _, _, 0, _, .cons r _, e => by simp at e; subst e; exact ⟨_, rfl, r⟩
  | _, _, i + 1, x, .cons _ t, e => by
    obtain ⟨u, h1, h2⟩ := Vals.get (i := i) (x := x) t (by simpa using e)
    exact ⟨u, by simpa using h1, h2⟩
theorem Vals.append : ∀ {xs ys : List V} {us ws : List Value}, Vals xs us → Vals ys ws → Vals (xs ++ ys) (us ++ ws)
  | _, _, _, _, .nil, s => s
  | _, _, _, _, .cons r t, s => .cons r (Vals.append t s)
theorem Vals.take : ∀ {xs : List V} {us : List Value} (n : Nat), Vals xs us → Vals (xs.take n) (us.take n)
  | _, _, 0, _ => .nil
  | _, _, _ + 1, .nil => .nil
  | _, _, n + 1, .cons r t => .cons r (Vals.take n t)
theorem Vals.drop : ∀ {xs : List V} {us : List Value} (n : Nat), Vals xs us → Vals (xs.drop n) (us.drop n)
  | _, _, 0, r => r
  | _, _, _ + 1, .nil => .nil
  | _, _, n + 1, .cons _ t => Vals.drop n t
noncomputable def RelO : Option V → Option Value → Prop
  | some v, some u => RelV v u
  | none, none => True
  | _, _ => False
noncomputable def KV {κ : Type} : List (κ × V) → List (κ × Value) → Prop := Paired fun (p : κ × V) (q : κ × Value) => p.1 = q.1 ∧ RelV p.2 q.2
noncomputable def kV : Key → V
  | .inl i => .int i
  | .inr x => .str x
inductive HO where
  | lst (xs : List V)
  | tup (xs : List V)
  | dK (kvs : List (Key × V)) | dT (kvs : List (List Key × V))
  | set (S : Int → Bool) (n : Nat)
  | ins (C dx : Addr) (fs : List (Str × V))
  | own (x : Addr)
  | xd (fs : List (Str × V))
  | met (f x : Addr)
  | rng (lo hi : Int)
  | frz (o : Obj) (u : HO)
  | tbl (ps : Array Value)
  | ext (φ : Heap → Prop)
noncomputable abbrev Hp := Addr → Option HO
noncomputable def upd (H : Hp) (a : Addr) (o : HO) : Hp := fun b => if b = a then some o else H b
theorem upd_same {H : Hp} {a : Addr} {o : HO} : upd H a o a = some o := by unfold upd; rw [if_pos rfl]
theorem upd_ne {H : Hp} {a b : Addr} {o : HO} (h : b ≠ a) : upd H a o b = H b := by unfold upd; rw [if_neg h]
theorem upd_upd {H : Hp} {a : Addr} {o u : HO} : upd (upd H a o) a u = upd H a u := by
  funext b; unfold upd; split <;> rfl
theorem ne_of {H : Hp} {a b : Addr} {o u : HO} (h : H a = some o) (h' : H b = some u) (d : o ≠ u) : a ≠ b := by
  intro e; subst e; rw [h] at h'; exact d (Option.some.inj h')
theorem ne_of_none {H : Hp} {a b : Addr} {o : HO} (h : H a = some o) (h' : H b = none) : a ≠ b := by
  intro e; subst e; rw [h] at h'; cases h'
section
variable (P : Program) (w : World)
noncomputable def ObjOk (H : Hp) (h : Heap) (a : Addr) : HO → Prop
  | .lst xs => xs.length ≤ sizeLine ∧ ∃ (its : List Value) (n : Nat), Vals xs its ∧ h.get? a = some { cls := .type "list", data := .seq its.toArray n }
  | .tup xs => xs.length ≤ sizeLine ∧ ∃ its : List Value, Vals xs its ∧ IsTup h a its.toArray
  | .dK kvs => kvs.length ≤ sizeLine ∧ (a == sysModules) = false ∧ ∃ vs, KV kvs vs ∧ h.DictOf (mixKind P w) a vs
  | .dT kvs => kvs.length ≤ sizeLine ∧ (a == sysModules) = false ∧ ∃ xs : List (List Key × Addr × Value),
      Paired (fun (p : List Key × V) (q : List Key × Addr × Value) => p.1 = q.1 ∧ H q.2.1 = some (.tup (p.1.map kV)) ∧ RelV p.2 q.2.2) kvs xs ∧
      ∃ o es ep, h.get? a = some o ∧ o.ExactDict ∧ o.data = .dict es ep ∧ es.toList = xs.map (entryOfKey (tupleKind (mixKind P w))) ∧ (xs.map (·.1)).Nodup
  | .set S n => h.SetOf (intKind P w) a S n
  | .ins C dx fs => H dx = some (.own a) ∧ fs.length ≤ 1000 ∧ dx ≠ a ∧ h.get? a = some (PySem.W.instObj C dx) ∧
      ∃ mA, h.Ns1 dx mA ∧ (∀ f, RelO (fs.lookup f) (mA f)) ∧ PySem.Within mA (fs.map (·.1))
  | .own _ => ∃ o, h.get? a = some o
  | .xd fs => ∃ mA, h.Ns1 a mA ∧ ∀ f, RelO (fs.lookup f) (mA f)
  | .rng lo hi => ∃ t u v, h.get? a = some { cls := .type "range", data := .fields #[.int lo t, .int hi u, .int 1 v] }
  | .frz o u => h.get? a = some o ∧ ObjOk H h a u
  | .tbl ps => h.get? a = some { cls := .none, data := .fields ps }
  | .met f x => h.get? a = some (PySem.W.methodObj (.ref f) (.ref x))
  | .ext φ => φ h ∧ (∃ o, h.get? a = some o) ∧ ∀ h1 h2 : Heap, φ h1 → (∀ o, h1.get? a = some o → h2.get? a = some o) → φ h2
noncomputable def HOk (H : Hp) (h : Heap) : Prop := ∀ a o, H a = some o → ObjOk P w H h a o
end
section
variable {P : Program} {w : World} {H H' : Hp} {h h' : Heap} {a : Addr} {o : HO}
theorem ObjOk.lt (x : ObjOk P w H h a o) : a < h.objs.size := by
  cases o with
  | lst xs => obtain ⟨_, _, _, _, e⟩ := x; exact Heap.lt_size e
  | tup xs => obtain ⟨_, _, _, p⟩ := x; exact p.lt
  | dK kvs => obtain ⟨_, _, _, _, o, _, _, e, _⟩ := x; exact Heap.lt_size e
  | dT kvs => obtain ⟨_, _, _, _, o, _, _, e, _⟩ := x; exact Heap.lt_size e
  | set S n => obtain ⟨o, _, _, _, e, _⟩ := x; exact Heap.lt_size e
  | ins C dx fs => obtain ⟨_, _, _, e, _⟩ := x; exact Heap.lt_size e
  | own y => obtain ⟨_, e⟩ := x; exact Heap.lt_size e
  | xd fs => obtain ⟨_, ⟨_, _, _, e, _⟩, _⟩ := x; exact Heap.lt_size e
  | rng lo hi => obtain ⟨_, _, _, e⟩ := x; exact Heap.lt_size e
  | frz ob u => obtain ⟨e, _⟩ := x; exact Heap.lt_size e
  | tbl ps => exact Heap.lt_size (show h.get? a = some _ from x)
  | met f y => exact Heap.lt_size (show h.get? a = some _ from x)
  | ext φ => obtain ⟨_, ⟨_, e⟩, _⟩ := x; exact Heap.lt_size e
theorem Paired.mapP {α β : Type} {F G : α → β → Prop} : ∀ {l₁ : List α} {l₂ : List β}, Paired F l₁ l₂ → (∀ a b, F a b → G a b) → Paired G l₁ l₂
  | _, _, .nil, _ => .nil
  | _, _, .cons r t, f => .cons (f _ _ r) (Paired.mapP t f)
theorem ObjOk.stay (x : ObjOk P w H h a o) (k : ∀ b u, (b = a ∨ H b = some (.own a)) → h.get? b = some u → h'.get? b = some u)
    (ho : ∀ b, H b = some (.own a) → H' b = some (.own a)) (ht : ∀ b xs, H b = some (.tup xs) → H' b = some (.tup xs)) : ObjOk P w H' h' a o := by
  induction o with
  | lst xs => obtain ⟨z, its, n, r, e⟩ := x; exact ⟨z, its, n, r, k _ _ (.inl rfl) e⟩
  | tup xs => obtain ⟨z, its, r, ob, e, c⟩ := x; exact ⟨z, its, r, ob, k _ _ (.inl rfl) e, c⟩
  | dK kvs => obtain ⟨z, y, vs, r, ob, es, ep, e, c⟩ := x; exact ⟨z, y, vs, r, ob, es, ep, k _ _ (.inl rfl) e, c⟩
  | dT kvs =>
    obtain ⟨z, y, xs, r, ob, es, ep, e, c⟩ := x
    exact ⟨z, y, xs, Paired.mapP r fun p q z => ⟨z.1, ht _ _ z.2.1, z.2.2⟩, ob, es, ep, k _ _ (.inl rfl) e, c⟩
  | set S n => obtain ⟨ob, es, ep, t, e, c⟩ := x; exact ⟨ob, es, ep, t, k _ _ (.inl rfl) e, c⟩
  | ins C dx fs =>
    obtain ⟨d, z, ne, e, mA, ⟨od, es, ep, e2, c⟩, r⟩ := x
    exact ⟨ho _ d, z, ne, k _ _ (.inl rfl) e, mA, ⟨od, es, ep, k _ _ (.inr d) e2, c⟩, r⟩
  | own y => obtain ⟨ob, e⟩ := x; exact ⟨ob, k _ _ (.inl rfl) e⟩
  | xd fs => obtain ⟨mA, ⟨od, es, ep, e, c⟩, r⟩ := x; exact ⟨mA, ⟨od, es, ep, k _ _ (.inl rfl) e, c⟩, r⟩
  | rng lo hi => obtain ⟨t, u, v, e⟩ := x; exact ⟨t, u, v, k _ _ (.inl rfl) e⟩
  | frz ob u ih => obtain ⟨e, q⟩ := x; exact ⟨k _ _ (.inl rfl) e, ih q⟩
  | tbl ps =>
    have e : h.get? a = some { cls := .none, data := .fields ps } := x
    show h'.get? a = some { cls := .none, data := .fields ps }
    exact k a _ (.inl rfl) e
  | met f y =>
    have e : h.get? a = some (PySem.W.methodObj (.ref f) (.ref y)) := x
    show h'.get? a = some (PySem.W.methodObj (.ref f) (.ref y))
    exact k a _ (.inl rfl) e
  | ext φ => obtain ⟨p, ⟨o, e⟩, st⟩ := x; exact ⟨st _ _ p fun o q => k _ _ (.inl rfl) q, ⟨o, k _ _ (.inl rfl) e⟩, st⟩
theorem HOk.lt (x : HOk P w H h) (e : H a = some o) : a < h.objs.size := (x a o e).lt
theorem HOk.fresh (x : HOk P w H h) (e : h.objs.size ≤ a) : H a = none := by
  cases q : H a with
  | none => rfl
  | some u => exact absurd (Nat.lt_of_lt_of_le (x.lt q) e) (Nat.lt_irrefl _)
theorem HOk.kept (x : HOk P w H h) (k : ∀ b u, h.get? b = some u → h'.get? b = some u) : HOk P w H h' := fun a o e =>
  (x a o e).stay (fun b u _ q => k b u q) (fun _ q => q) fun _ _ q => q
theorem HOk.laid (x : HOk P w H h) (k : ∀ b u, h.get? b = some u → h'.get? b = some u) (hp : h.objs.size ≤ a) (new : ObjOk P w (upd H a o) h' a o) : HOk P w (upd H a o) h' := fun b u e => by
  have hn := x.fresh hp
  by_cases hb : b = a
  · subst hb; rw [upd_same] at e; cases e; exact new
  · rw [upd_ne hb] at e
    exact (x b u e).stay (fun c v _ q => k c v q) (fun c q => by rw [upd_ne (ne_of_none q hn)]; exact q) fun c xs q => by rw [upd_ne (ne_of_none q hn)]; exact q
end
noncomputable def Rd (H : Hp) (a : Addr) (u : HO) : Prop := H a = some u ∨ ∃ o, H a = some (.frz o u)
theorem Rd.ok {P : Program} {w : World} {H : Hp} {h : Heap} {a : Addr} {u : HO} (r : Rd H a u) (x : HOk P w H h) : ObjOk P w H h a u := by
  rcases r with r | ⟨o, r⟩
  · exact x a u r
  · obtain ⟨_, q⟩ := x a _ r
    exact q
noncomputable def Mut : Option HO → Prop
  | some (.lst _) => True
  | some (.dK _) => True
  | some (.dT _) => True
  | some (.set _ _) => True
  | some (.ins _ _ _) => True
  | some (.ext _) => True
  | _ => False
section
variable {P : Program} {w : World} {H : Hp} {h h' : Heap} {x e : Addr} {o' : HO}
theorem HOk.write (ok : HOk P w H h) (mu : Mut (H x)) (he : e = x ∨ H e = some (.own x)) (k : ∀ b u, b ≠ e → h.get? b = some u → h'.get? b = some u) (heo : ∃ u, h'.get? e = some u)
    (new : ObjOk P w (upd H x o') h' x o') : HOk P w (upd H x o') h' := fun b u q => by
  have nown : ∀ c y, H c = some (.own y) → c ≠ x := fun c y r z => by subst z; rw [r] at mu; exact mu
  have ntup : ∀ c xs, H c = some (.tup xs) → c ≠ x := fun c xs r z => by subst z; rw [r] at mu; exact mu
  by_cases hb : b = x
  · subst hb; rw [upd_same] at q; cases q; exact new
  · rw [upd_ne hb] at q
    by_cases hbe : b = e
    · have q' : H b = some (.own x) := by
        rcases he with z | z
        · exact absurd (hbe.trans z) hb
        · rw [hbe]; exact z
      rw [q] at q'; cases q'
      obtain ⟨v, hv⟩ := heo
      exact ⟨v, by rw [hbe]; exact hv⟩
    · refine (ok b u q).stay (fun c v hc r => k c v ?_ r) (fun c r => by rw [upd_ne (nown c b r)]; exact r) fun c xs r => by rw [upd_ne (ntup c xs r)]; exact r
      rcases hc with rfl | hc
      · exact hbe
      · rintro rfl
        rcases he with z | z
        · exact nown c b hc z
        · rw [hc] at z; cases z; exact hb rfl
end
structure Un (fs ex : List Addr) (H H' : Hp) (h h' : Heap) : Prop where
  keep : ∀ b o, h.get? b = some o → H b = none → b ∉ fs → b ∉ ex → h'.get? b = some o
  slot : ∀ b o, h.get? b = some o → H b = none → b ∈ fs → b ∉ ex → ∃ sl, h'.get? b = some { o with slots := sl }
  free : ∀ b o, h.get? b = some o → H b = none → b ∉ ex → H' b = none
  there : ∀ b o, h.get? b = some o → b ∉ ex → ∃ o', h'.get? b = some o'
  tups : ∀ b xs, H b = some (.tup xs) → H' b = some (.tup xs)
  frzs : ∀ b o u, H b = some (.frz o u) → H' b = some (.frz o u)
  tbls : ∀ b ps, H b = some (.tbl ps) → ∃ more, H' b = some (.tbl (ps ++ more))
section
variable {fs fs' ex ex' : List Addr} {H H1 H2 : Hp} {h h1 h2 h' : Heap} {a x e : Addr} {o : HO}
theorem Un.any (u : Un fs ex H H1 h h1) {b : Addr} {ob : Obj} (q : h.get? b = some ob) (n : H b = none) (hx : b ∉ ex) : ∃ sl, h1.get? b = some { ob with slots := sl } := by
  by_cases hb : b ∈ fs
  · exact u.slot b ob q n hb hx
  · exact ⟨ob.slots, u.keep b ob q n hb hx⟩
theorem Un.kept (k : ∀ b u, h.get? b = some u → h'.get? b = some u) : Un fs ex H H h h' :=
  ⟨fun b ob q _ _ _ => k b ob q, fun b ob q _ _ _ => ⟨ob.slots, k b ob q⟩, fun _ _ _ n _ => n, fun b ob q _ => ⟨ob, k b ob q⟩, fun _ _ q => q, fun _ _ _ q => q, fun _ ps q => ⟨#[], by rw [q]; simp⟩⟩
theorem Un.refl : Un fs ex H H h h := Un.kept fun _ _ q => q
theorem Un.laid (k : ∀ b u, h.get? b = some u → h'.get? b = some u) (hp : h.objs.size ≤ a) (hn : H a = none) : Un fs ex H (upd H a o) h h' where
  keep := fun b u q _ _ _ => k b u q
  slot := fun b u q _ _ _ => ⟨u.slots, k b u q⟩
  free := fun b u q n _ => by rw [upd_ne (Nat.ne_of_lt (Nat.lt_of_lt_of_le (Heap.lt_size q) hp))]; exact n
  there := fun b u q _ => ⟨u, k b u q⟩
  tups := fun b xs q => by rw [upd_ne (ne_of_none q hn)]; exact q
  frzs := fun b u xs q => by rw [upd_ne (ne_of_none q hn)]; exact q
  tbls := fun b ps q => ⟨#[], by rw [upd_ne (ne_of_none q hn), q]; simp⟩
theorem Un.write (mu : Mut (H x)) (he : e = x ∨ H e = some (.own x)) (k : ∀ b u, b ≠ e → h.get? b = some u → h'.get? b = some u) (heo : ∃ u, h'.get? e = some u) : Un fs ex H (upd H x o) h h' := by
  have hx : ∀ b, H b = none → b ≠ x := fun b n z => by subst z; rw [n] at mu; exact mu
  have hb : ∀ b, H b = none → b ≠ e := fun b n z => by
    subst z
    rcases he with r | r
    · exact hx b n r
    · rw [n] at r; cases r
  have hm : ∀ b u, H b = some u → ¬ Mut (some u) → b ≠ x := fun b u q nm z => by subst z; rw [q] at mu; exact nm mu
  refine ⟨fun b u q n _ _ => k b u (hb b n) q, fun b u q n _ _ => ⟨u.slots, k b u (hb b n) q⟩, fun b u q n _ => by rw [upd_ne (hx b n)]; exact n, fun b u q _ => ?_,
    fun b xs q => by rw [upd_ne (hm b _ q fun z => z)]; exact q, fun b u xs q => by rw [upd_ne (hm b _ q fun z => z)]; exact q, fun b ps q => ⟨#[], by rw [upd_ne (hm b _ q fun z => z), q]; simp⟩⟩
  by_cases hbe : b = e
  · subst hbe; exact heo
  · exact ⟨u, k b u hbe q⟩
end
noncomputable def trk (h : Heap) (H : Hp) : List Addr := (List.range h.objs.size).filter fun a => (H a).isSome
noncomputable def hidT (h : Heap) (H : Hp) : Heap := PySem.W.hideAll h (trk h H)
theorem hidT_size (h : Heap) (H : Hp) : (hidT h H).objs.size = h.objs.size := PySem.W.hideAll_size _ _
theorem hidT_get {h : Heap} {H : Hp} {b : Addr} {o : Obj} (e : h.get? b = some o) (n : H b = none) : (hidT h H).get? b = some o :=
  PySem.W.hideAll_get _ e fun hm => by
    have q : (H b).isSome = true := (List.mem_filter.mp hm).2
    rw [n] at q; simp at q
theorem of_hidT {h : Heap} {H : Hp} {b : Addr} {o : Obj} (e : (hidT h H).get? b = some o) : h.get? b = some o ∧ H b = none := by
  have e' : h.get? b = some o := PySem.W.of_hideAll (trk h H) e
  refine ⟨e', ?_⟩
  cases q : H b with
  | none => rfl
  | some x =>
    have hm : b ∈ trk h H := List.mem_filter.mpr ⟨List.mem_range.mpr (Heap.lt_size e'), by simp [q]⟩
    have z : (hidT h H).get? b = none := PySem.W.hideAll_none (trk h H) hm
    rw [z] at e; cases e
noncomputable def allNews (g h : Heap) (L : Addr) : List (Addr × Obj) := (List.range h.objs.size).filterMap fun a => if a = L ∨ (g.get? a).isSome = true then none else (h.get? a).map fun o => (a, o)
noncomputable def rest (g h : Heap) (L d : Addr) : List (Addr × Obj) := (allNews g h L).filter fun p => decide (p.1 ≠ d)
end L2
namespace L2
open PySem PySem.Spec PyProof.Rows
structure Mod (K : PySem.W.Frag) (mg : Str → Option Value) (base : Heap) : Prop where
  kin : K.In base
  glob : base.Ns mainGlobals mg
  blt : ∃ mb, base.Ns builtinsNs mb ∧ ∀ x : Str, x ≠ "__name__" → mb x = bootBuiltins x
  nolimit : base.NoLimit
structure Cx where
  prog : Program
  w : World
  K : PySem.W.Frag
  mg : Str → Option Value
  base : Heap
  A : Around
  N : List Str
  s₀ : Shared
  H₀ : Hp
  env : Env
  outer : List Env
  stack : List Env
  ex : List Addr
  fn : Str → Bool
  calm : Bool
  pn : List (Addr × Obj)
  xe : Value → Shared → Prop
noncomputable def frs (l : List Env) : List Addr := l.filterMap (·.frame)
noncomputable abbrev Cx.fs (X : Cx) : List Addr := frs X.outer
noncomputable def Vis (sc : Scope) (x : Str) : Prop := sc.names.lookup x = some .local ∨ sc.names.lookup x = some .cell ∨ sc.names.lookup x = some .free
noncomputable def Loc (sc : Scope) (x : Str) : Prop := sc.names.lookup x = some .local ∨ sc.names.lookup x = some .cell
noncomputable def Look (env : Env) (h : Heap) (m : Str → Option Value) (x : Str) (u : Value) : Prop :=
  (env.kindOf x = some .local ∧ m x = some u) ∨ ((env.kindOf x = some .cell ∨ env.kindOf x = some .free) ∧ ∃ c, env.cells.lookup x = some c ∧ h.IsCell c (some u))
structure Cx.Ok (X : Cx) : Prop where
  mod : Mod X.K X.mg X.base
  kind : X.env.scope.kind = .function
  glob : X.env.globals = mainGlobals
  blt : X.env.builtins = builtinsNs
  above : X.s₀.heap.objs.size ≤ X.env.locals
  inj : ∀ x y c, X.env.cells.lookup x = some c → X.env.cells.lookup y = some c → x = y
  has : ∀ x, (X.env.kindOf x = some .cell ∨ X.env.kindOf x = some .free) → ∃ c, X.env.cells.lookup x = some c
  cab : ∀ x c, X.fn x = true → X.env.cells.lookup x = some c → X.s₀.heap.objs.size ≤ c
  hd : X.calm = true → X.A.handled = none
  frames : X.A.frames = some X.stack
  stk : X.stack = X.outer ∨ (X.stack = X.env :: X.outer ∧ X.env.frame = some X.env.locals)
  exf : ∀ b ∈ X.ex, b ≠ X.env.locals ∧ ∀ x c, X.env.cells.lookup x = some c → c ≠ b
  bs : ∀ b o, X.base.get? b = some o → X.s₀.heap.get? b = some o ∧ X.H₀ b = none
  bsz : X.base.objs.size ≤ X.s₀.heap.objs.size
  noex : ∀ b o, X.base.get? b = some o → b ∉ X.ex
  exfs : ∀ b ∈ X.ex, b ∉ X.fs
  funs : X.s₀.heap.FunFrames X.base X.outer
  frf : ∀ b ∈ X.fs, X.H₀ b = none
structure Inv (X : Cx) (pins : List (Addr × Obj)) (σ : List (Option V)) (H : Hp) (s : Shared) : Prop where
  ok : X.Ok
  os : s.os = X.s₀.os
  bare : AllBare s.gens
  base : Un X.fs X.ex X.H₀ H X.s₀.heap s.heap
  loc : ∃ m, s.heap.Ns X.env.locals m ∧ ∀ (i : Nat) (x : Str) (v : V), X.N[i]? = some x → σ[i]? = some (some v) → Vis X.env.scope x → ∃ u, RelV v u ∧ Look X.env s.heap m x u
  cell : ∀ x c, X.env.cells.lookup x = some c → ∃ v, s.heap.IsCell c v
  free : H X.env.locals = none
  freeC : ∀ x c, X.env.cells.lookup x = some c → H c = none
  pin : ∀ p ∈ X.pn ++ pins, s.heap.get? p.1 = some p.2 ∧ H p.1 = none ∧ p.1 ≠ X.env.locals ∧ p.1 ∉ X.fs ∧ ∀ v, p.2.data ≠ .cell v
  hok : HOk X.prog X.w H s.heap
  len : σ.length = X.N.length
section
variable {X : Cx} {pins : List (Addr × Obj)} {σ : List (Option V)} {H H' : Hp} {s : Shared} {h' : Heap}
theorem Cx.Ok.nofr (ok : X.Ok) {b : Addr} {o : Obj} (e : X.base.get? b = some o) : b ∉ X.fs := fun hb => by
  have := (ok.funs.mem hb).1
  rw [e] at this; cases this
theorem Inv.bs (I : Inv X pins σ H s) : ∀ b o, X.base.get? b = some o → s.heap.get? b = some o ∧ H b = none := fun b o e =>
  ⟨I.base.keep b o (I.ok.bs b o e).1 (I.ok.bs b o e).2 (I.ok.nofr e) (I.ok.noex b o e), I.base.free b o (I.ok.bs b o e).1 (I.ok.bs b o e).2 (I.ok.noex b o e)⟩
theorem Inv.bk (I : Inv X pins σ H s) : ∀ b o, X.base.get? b = some o → s.heap.get? b = some o := fun b o e => (I.bs b o e).1
theorem Inv.mod (I : Inv X pins σ H s) : Mod X.K X.mg X.base := I.ok.mod
theorem Inv.kIn (I : Inv X pins σ H s) : X.K.In s.heap := I.ok.mod.kin.keeps I.bk
theorem Inv.fr (I : Inv X pins σ H s) : ∃ m, Fr X.base X.env.locals s.heap m :=
  let ⟨m, hn, _⟩ := I.loc
  ⟨m, hn, I.bk, Nat.le_trans I.ok.bsz I.ok.above⟩
theorem Inv.lt (I : Inv X pins σ H s) : X.env.locals < s.heap.objs.size := let ⟨_, hn, _⟩ := I.loc; hn.lt
theorem Inv.sz (I : Inv X pins σ H s) : X.s₀.heap.objs.size ≤ s.heap.objs.size := Nat.le_trans I.ok.above (Nat.le_of_lt I.lt)
theorem Inv.nofs (I : Inv X pins σ H s) {a : Addr} (h : s.heap.objs.size ≤ a) : a ∉ X.fs := fun hb => by
  obtain ⟨_, o, ho, _⟩ := I.ok.funs.mem hb
  exact absurd (Nat.lt_of_lt_of_le (Heap.lt_size ho) (Nat.le_trans I.sz h)) (Nat.lt_irrefl _)
theorem Inv.cne (I : Inv X pins σ H s) : ∀ x c, X.env.cells.lookup x = some c → c ≠ X.env.locals := fun x c e z => by
  obtain ⟨v, o, ho, hd⟩ := I.cell x c e
  obtain ⟨m, ⟨o', es, ep, ho', hd', _⟩, _⟩ := I.loc
  rw [z, ho'] at ho; cases ho; rw [hd'] at hd; cases hd
theorem Inv.funs (I : Inv X pins σ H s) : s.heap.FunFrames X.base X.outer := by
  have all : ∀ (l : List Env), (∀ b ∈ frs l, b ∈ X.fs) → X.s₀.heap.FunFrames X.base l → s.heap.FunFrames X.base l := by
    intro l
    induction l with
    | nil => intro _ _; trivial
    | cons env r ih =>
      intro hs hl
      obtain ⟨hk, ⟨L, o, hf, hn, ho, hd⟩, hr⟩ := hl
      have hL : L ∈ X.fs := hs L (by unfold frs; rw [List.filterMap_cons, hf]; exact List.mem_cons_self)
      obtain ⟨sl, e⟩ := I.base.slot L o ho (I.ok.frf L hL) hL fun z => I.ok.exfs L z hL
      exact ⟨hk, ⟨L, _, hf, hn, e, hd⟩, ih (fun b hb => hs b (by unfold frs; rw [List.filterMap_cons, hf]; exact List.mem_cons_of_mem _ hb)) hr⟩
  exact all X.outer (fun _ hb => hb) I.ok.funs
theorem Inv.stack (I : Inv X pins σ H s) : s.heap.FunFrames X.base X.stack := by
  rcases I.ok.stk with e | ⟨e, hf⟩
  · rw [e]; exact I.funs
  · rw [e]
    obtain ⟨m, hn, _⟩ := I.loc
    refine .cons (by rw [I.ok.kind]; decide) hf hn ?_ I.funs
    exact Heap.get?_none_of_le (Nat.le_trans I.ok.bsz I.ok.above)
theorem Inv.stkSub (I : Inv X pins σ H s) : ∀ b ∈ frs X.stack, b ∈ X.env.locals :: X.fs := fun b hb => by
  rcases I.ok.stk with e | ⟨e, hf⟩
  · rw [e] at hb; exact List.mem_cons_of_mem _ hb
  · rw [e] at hb
    unfold frs at hb
    rw [List.filterMap_cons, hf] at hb
    exact hb
theorem Inv.stkFree (I : Inv X pins σ H s) : ∀ b ∈ frs X.stack, H b = none := fun b hb => by
  rcases List.mem_cons.mp (I.stkSub b hb) with e | hb
  · rw [e]; exact I.free
  · obtain ⟨_, o, ho, _⟩ := I.ok.funs.mem hb
    exact I.base.free b o ho (I.ok.frf b hb) fun z => I.ok.exfs b z hb
theorem Inv.step {g' : Array GenState} {t' : Nat} {d' : Drawn} {ch : List Addr} (I : Inv X pins σ H s)
    (hch : ∀ b ∈ ch, (b ∈ X.ex ∨ X.s₀.heap.objs.size ≤ b) ∧ b ≠ X.env.locals ∧ (∀ x c, X.env.cells.lookup x = some c → c ≠ b) ∧ ∀ p ∈ X.pn ++ pins, p.1 ≠ b)
    (keep : ∀ b o, b ≠ X.env.locals → b ∉ X.fs → b ∉ ch → s.heap.get? b = some o → H b = none → h'.get? b = some o)
    (slot : ∀ b o, b ≠ X.env.locals → b ∈ X.fs → b ∉ ch → s.heap.get? b = some o → H b = none → ∃ sl, h'.get? b = some { o with slots := sl }) (free : ∀ b o, b ∉ ch → s.heap.get? b = some o → H b = none → H' b = none)
    (there : ∀ b o, b ∉ ch → s.heap.get? b = some o → ∃ o', h'.get? b = some o')
    (tups : ∀ b xs, H b = some (.tup xs) → H' b = some (.tup xs)) (frzs : ∀ b o u, H b = some (.frz o u) → H' b = some (.frz o u)) (tbls : ∀ b ps, H b = some (.tbl ps) → ∃ more, H' b = some (.tbl (ps ++ more)))
    (ns : ∀ m, s.heap.Ns X.env.locals m → h'.Ns X.env.locals m) (hok : HOk X.prog X.w H' h') (hg : AllBare g') :
    Inv X pins σ H' { s with heap := h', gens := g', drawn := d', toks := t' } := by
  have neL : ∀ b o, X.s₀.heap.get? b = some o → b ≠ X.env.locals := fun b o e => Nat.ne_of_lt (Nat.lt_of_lt_of_le (Heap.lt_size e) I.ok.above)
  have neC : ∀ b o, X.s₀.heap.get? b = some o → b ∉ X.ex → b ∉ ch := fun b o e hx hb => by
    rcases (hch b hb).1 with z | z
    · exact hx z
    · exact absurd (Nat.lt_of_lt_of_le (Heap.lt_size e) z) (Nat.lt_irrefl _)
  have cellK : ∀ x c, X.env.cells.lookup x = some c → ∀ v, s.heap.IsCell c v → h'.IsCell c v := fun x c e v ⟨o, ho, hd⟩ => by
    have nch : c ∉ ch := fun z => (hch c z).2.2.1 x c e rfl
    by_cases hc : c ∈ X.fs
    · obtain ⟨sl, q⟩ := slot c o (I.cne x c e) hc nch ho (I.freeC x c e)
      exact ⟨_, q, hd⟩
    · exact ⟨o, keep c o (I.cne x c e) hc nch ho (I.freeC x c e), hd⟩
  refine ⟨I.ok, I.os, hg, ⟨fun b o e n hb hx => ?_, fun b o e n hb hx => ?_, fun b o e n hx => ?_, fun b o e hx => ?_, fun b xs e => tups b xs (I.base.tups b xs e), fun b o xs e => frzs b o xs (I.base.frzs b o xs e), fun b ps e => ?_⟩, ?_, fun x c e => ?_, ?_, fun x c e => ?_, fun p hp => ?_, hok, I.len⟩
  · exact keep b o (neL b o e) hb (neC b o e hx) (I.base.keep b o e n hb hx) (I.base.free b o e n hx)
  · obtain ⟨sl, e1⟩ := I.base.slot b o e n hb hx
    obtain ⟨sl', e2⟩ := slot b _ (neL b o e) hb (neC b o e hx) e1 (I.base.free b o e n hx)
    exact ⟨sl', e2⟩
  · obtain ⟨o', e1⟩ := I.base.there b o e hx
    exact free b o' (neC b o e hx) e1 (I.base.free b o e n hx)
  · obtain ⟨o', e1⟩ := I.base.there b o e hx
    exact there b o' (neC b o e hx) e1
  · obtain ⟨m1, e1⟩ := I.base.tbls b ps e
    obtain ⟨m2, e2⟩ := tbls b _ e1
    exact ⟨m1 ++ m2, by rw [e2, Array.append_assoc]⟩
  · obtain ⟨m, hn, hl⟩ := I.loc
    refine ⟨m, ns m hn, fun i x v e1 e2 e3 => ?_⟩
    obtain ⟨u, r, l⟩ := hl i x v e1 e2 e3
    refine ⟨u, r, ?_⟩
    rcases l with l | ⟨k, c, e, z⟩
    · exact .inl l
    · exact .inr ⟨k, c, e, cellK x c e _ z⟩
  · obtain ⟨v, z⟩ := I.cell x c e
    exact ⟨v, cellK x c e v z⟩
  · obtain ⟨m, ⟨o, _, _, ho, _⟩, _⟩ := I.loc
    exact free _ o (fun z => (hch _ z).2.1 rfl) ho I.free
  · obtain ⟨v, o, ho, hd⟩ := I.cell x c e
    exact free c o (fun z => (hch c z).2.2.1 x c e rfl) ho (I.freeC x c e)
  · obtain ⟨e, n, ne, nf, d⟩ := I.pin p hp
    have nch : p.1 ∉ ch := fun z => (hch p.1 z).2.2.2 p hp rfl
    exact ⟨keep p.1 p.2 ne nf nch e n, free p.1 p.2 nch e n, ne, nf, d⟩
theorem Inv.un {t' : Nat} (I : Inv X pins σ H s) (u : Un X.fs [] H H' s.heap h') (hok : HOk X.prog X.w H' h') : Inv X pins σ H' { s with heap := h', toks := t' } := by
  obtain ⟨m, ⟨o, es, ep, ho, r⟩, _⟩ := id I.loc
  obtain ⟨sl, hL⟩ := u.any ho I.free (by simp)
  exact I.step (g' := s.gens) (d' := s.drawn) (ch := []) (fun _ z => nomatch z) (fun b o _ hb _ e n => u.keep b o e n hb (by simp)) (fun b o _ hb _ e n => u.slot b o e n hb (by simp)) (fun b o _ e n => u.free b o e n (by simp)) (fun b o _ e => u.there b o e (by simp)) u.tups u.frzs u.tbls (fun m' hm => by
    obtain ⟨o', es', ep', ho', r'⟩ := hm
    rw [ho] at ho'; cases ho'
    exact ⟨_, es', ep', hL, r'⟩) hok I.bare
theorem Inv.call {g' : Array GenState} {t' : Nat} {d' : Drawn} {ch : List Addr} (I : Inv X pins σ H s) (u : Un (frs X.stack) ch H H' s.heap h') (hok : HOk X.prog X.w H' h') (hg : AllBare g')
    (hch : ∀ b ∈ ch, (b ∈ X.ex ∨ X.s₀.heap.objs.size ≤ b) ∧ b ≠ X.env.locals ∧ (∀ x c, X.env.cells.lookup x = some c → c ≠ b) ∧ ∀ p ∈ X.pn ++ pins, p.1 ≠ b) :
    Inv X pins σ H' { s with heap := h', gens := g', drawn := d', toks := t' } := by
  obtain ⟨m, ⟨o, es, ep, ho, r⟩, _⟩ := id I.loc
  obtain ⟨sl, hL⟩ := u.any ho I.free fun z => (hch _ z).2.1 rfl
  exact I.step (ch := ch) hch (fun b o hL hb hc e n => u.keep b o e n (fun z => (List.mem_cons.mp (I.stkSub b z)).elim hL hb) hc) (fun b o _ _ hc e n => u.any e n hc) (fun b o hc e n => u.free b o e n hc) (fun b o hc e => u.there b o e hc) u.tups u.frzs u.tbls (fun m' hm => by
    obtain ⟨o', es', ep', ho', r'⟩ := hm
    rw [ho] at ho'; cases ho'
    exact ⟨_, es', ep', hL, r'⟩) hok hg
theorem Inv.turned {t' : Nat} {it : Addr} (I : Inv X pins σ H s) (k : ∀ b o, b ≠ it → s.heap.get? b = some o → h'.get? b = some o) (hn : H it = none) (hL : it ≠ X.env.locals)
    (h1 : it ∈ X.ex ∨ X.s₀.heap.objs.size ≤ it) (h2 : ∀ x c, X.env.cells.lookup x = some c → c ≠ it) (h3 : ∀ p ∈ X.pn ++ pins, p.1 ≠ it) : Inv X pins σ H { s with heap := h', toks := t' } := by
  have nit : ∀ b u, H b = some u → b ≠ it := fun b u e z => by rw [z, hn] at e; cases e
  refine I.step (g' := s.gens) (d' := s.drawn) (ch := [it]) (fun b hb => ?_) (fun b o _ _ hc e _ => k b o (fun z => hc (by simp [z])) e) (fun b o _ _ hc e _ => ⟨o.slots, k b o (fun z => hc (by simp [z])) e⟩) (fun _ _ _ _ n => n)
    (fun b o hc e => ⟨o, k b o (fun z => hc (by simp [z])) e⟩) (fun _ _ e => e) (fun _ _ _ e => e) (fun b ps e => ⟨#[], by rw [e]; simp⟩) (fun m hm => ?_) (fun b u e => ?_) I.bare
  · have e : b = it := by simpa using hb
    subst e
    exact ⟨h1, hL, h2, h3⟩
  · obtain ⟨o, es, ep, ho, r⟩ := hm
    exact ⟨o, es, ep, k _ o (Ne.symm hL) ho, r⟩
  · refine (I.hok b u e).stay (fun c v hc q => k c v ?_ q) (fun _ q => q) fun _ _ q => q
    rcases hc with z | z
    · rw [z]; exact nit b u e
    · exact nit c _ z
theorem Inv.tok (I : Inv X pins σ H s) (t : Nat) : Inv X pins σ H { s with toks := t } := I.un (h' := s.heap) (t' := t) Un.refl I.hok
theorem Inv.kept {t' : Nat} (I : Inv X pins σ H s) (k : ∀ b u, s.heap.get? b = some u → h'.get? b = some u) : Inv X pins σ H { s with heap := h', toks := t' } := I.un (Un.kept k) (I.hok.kept k)
theorem Inv.laid {a : Addr} {o : HO} {t' : Nat} (I : Inv X pins σ H s) (k : ∀ b u, s.heap.get? b = some u → h'.get? b = some u) (hp : s.heap.objs.size ≤ a) (new : ObjOk X.prog X.w (upd H a o) h' a o) :
    Inv X pins σ (upd H a o) { s with heap := h', toks := t' } := I.un (Un.laid k hp (I.hok.fresh hp)) (I.hok.laid k hp new)
theorem Inv.write {x e : Addr} {o : HO} {t' : Nat} (I : Inv X pins σ H s) (mu : Mut (H x)) (he : e = x ∨ H e = some (.own x)) (k : ∀ b u, b ≠ e → s.heap.get? b = some u → h'.get? b = some u) (heo : ∃ u, h'.get? e = some u)
    (new : ObjOk X.prog X.w (upd H x o) h' x o) : Inv X pins σ (upd H x o) { s with heap := h', toks := t' } := I.un (Un.write mu he k heo) (I.hok.write mu he k heo new)
theorem Inv.weak {σ' : List (Option V)} (I : Inv X pins σ H s) (hl : σ'.length = σ.length) (w : ∀ (i : Nat) v, σ'[i]? = some (some v) → σ[i]? = some (some v)) : Inv X pins σ' H s :=
  ⟨I.ok, I.os, I.bare, I.base, let ⟨m, hn, hl'⟩ := I.loc; ⟨m, hn, fun i x v e1 e2 e3 => hl' i x v e1 (w i v e2) e3⟩, I.cell, I.free, I.freeC, I.pin, I.hok, hl.trans I.len⟩
theorem Inv.pins_of {pins' : List (Addr × Obj)} (I : Inv X pins σ H s) (h : ∀ p ∈ pins', s.heap.get? p.1 = some p.2 ∧ H p.1 = none ∧ p.1 ≠ X.env.locals ∧ p.1 ∉ X.fs ∧ ∀ v, p.2.data ≠ .cell v) : Inv X pins' σ H s :=
  ⟨I.ok, I.os, I.bare, I.base, I.loc, I.cell, I.free, I.freeC, fun p hp => (List.mem_append.mp hp).elim (fun z => I.pin p (List.mem_append_left _ z)) (h p), I.hok, I.len⟩
theorem nodup_ix {N : List Str} (hN : N.Nodup) {i j : Nat} {x : Str} (a : N[i]? = some x) (b : N[j]? = some x) : i = j := by
  obtain ⟨h1, e1⟩ := List.getElem?_eq_some_iff.mp a
  obtain ⟨h2, e2⟩ := List.getElem?_eq_some_iff.mp b
  exact (List.getElem_inj hN).mp (e1.trans e2.symm)
theorem store_ok2 {M : Model} {A : Around} {E : Value → Shared → Prop} {i : Nat} {x : Str} {v : V} {u : Value} {Q : Unit → Shared → Prop} (I : Inv X pins σ H s) (hN : X.N.Nodup) (hi : X.N[i]? = some x) (hx : Loc X.env.scope x) (r : RelV v u)
    (h : ∀ s', Inv X pins (σ.set i (some v)) H s' → (∃ a, Heap.SameBut a s.heap s'.heap ∧ (a = X.env.locals ∨ X.env.cells.lookup x = some a)) → Q () s') (hf : X.fn x = true ∨ X.env.scope.names.lookup x = some .local := by first | exact .inl rfl | exact .inr rfl | assumption) : wpAny M A (storeName X.env x u) Q E s := by
  obtain ⟨m, hn, hl⟩ := id I.loc
  have hcls : (X.env.scope.kind == .class || (X.env.scope.kind == .module && X.env.locals != X.env.globals)) = false := by rw [I.ok.kind]; rfl
  have hiσ : i < σ.length := by rw [I.len]; exact (List.getElem?_eq_some_iff.mp hi).1
  have cne := I.cne
  have tracked : ∀ {a : Addr} {h' : Heap}, (∃ o, s.heap.get? a = some o ∧ H a = none) → Heap.SameBut a s.heap h' → HOk X.prog X.w H h' := fun {a h'} ha hs b ob e => by
    obtain ⟨_, _, hfree⟩ := ha
    refine (I.hok b ob e).stay (fun c w' hc q => (hs.2 c ?_).trans q) (fun _ q => q) fun _ _ q => q
    rintro rfl
    rcases hc with rfl | hc
    · rw [hfree] at e; cases e
    · rw [hfree] at hc; cases hc
  rcases hx with hk | hk
  · refine wpAny_storeName_local hk hn (fun h' hn' hs => ?_) hcls
    obtain ⟨oL, _, _, hoL, _⟩ := id hn
    refine h _ ⟨I.ok, I.os, I.bare, ⟨fun b o e n hb hx => ?_, fun b o e n hb hx => ?_, I.base.free, fun b o e hx => ?_, I.base.tups, I.base.frzs, I.base.tbls⟩, ⟨_, hn', fun j y v' e1 e2 e3 => ?_⟩, fun y c e => ?_, I.free, I.freeC, fun p hp => ?_, tracked ⟨oL, hoL, I.free⟩ hs, by simpa using I.len⟩ ⟨_, hs, .inl rfl⟩
    · exact (hs.2 b (Nat.ne_of_lt (Nat.lt_of_lt_of_le (Heap.lt_size e) I.ok.above))).trans (I.base.keep b o e n hb hx)
    · obtain ⟨sl, e1⟩ := I.base.slot b o e n hb hx
      exact ⟨sl, (hs.2 b (Nat.ne_of_lt (Nat.lt_of_lt_of_le (Heap.lt_size e) I.ok.above))).trans e1⟩
    · obtain ⟨o', e1⟩ := I.base.there b o e hx
      exact ⟨o', (hs.2 b (Nat.ne_of_lt (Nat.lt_of_lt_of_le (Heap.lt_size e) I.ok.above))).trans e1⟩
    · by_cases hj : j = i
      · subst hj
        rw [hi] at e1; cases e1
        rw [List.getElem?_set_self hiσ] at e2
        cases e2
        exact ⟨u, r, .inl ⟨hk, by simp⟩⟩
      · rw [List.getElem?_set_ne (Ne.symm hj)] at e2
        obtain ⟨u', r', q⟩ := hl j y v' e1 e2 e3
        refine ⟨u', r', ?_⟩
        rcases q with ⟨k, e⟩ | ⟨k, c, e, z⟩
        · refine .inl ⟨k, ?_⟩
          have : y ≠ x := fun e => hj (nodup_ix hN e1 (e ▸ hi))
          simp [this, e]
        · exact .inr ⟨k, c, e, z.sameBut hs (cne y c e)⟩
    · obtain ⟨w', z⟩ := I.cell y c e
      exact ⟨w', z.sameBut hs (cne y c e)⟩
    · obtain ⟨e, n, ne, nf, d⟩ := I.pin p hp
      exact ⟨(hs.2 p.1 ne).trans e, n, ne, nf, d⟩
  · have hfn : X.fn x = true := by
      rcases hf with z | z
      · exact z
      · rw [z] at hk; cases hk
    obtain ⟨c, hc⟩ := I.ok.has x (.inl hk)
    obtain ⟨w', z⟩ := I.cell x c hc
    refine wpAny_storeName_cell I.ok.kind hk hc z (fun h' hc' hs => ?_)
    obtain ⟨oc, hoc, hocd⟩ := id z
    refine h { s with heap := h' } ⟨I.ok, I.os, I.bare, ⟨fun b o e n hb hx => ?_, fun b o e n hb hx => ?_, I.base.free, fun b o e hx => ?_, I.base.tups, I.base.frzs, I.base.tbls⟩, ⟨m, hn.sameBut hs (Ne.symm (cne x c hc)), fun j y v' e1 e2 e3 => ?_⟩, fun y c' e => ?_, I.free, I.freeC, fun p hp => ?_, tracked ⟨oc, hoc, I.freeC x c hc⟩ hs, by simpa using I.len⟩ ⟨c, hs, .inr hc⟩
    · exact (hs.2 b (Nat.ne_of_lt (Nat.lt_of_lt_of_le (Heap.lt_size e) (I.ok.cab x c hfn hc)))).trans (I.base.keep b o e n hb hx)
    · obtain ⟨sl, e1⟩ := I.base.slot b o e n hb hx
      exact ⟨sl, (hs.2 b (Nat.ne_of_lt (Nat.lt_of_lt_of_le (Heap.lt_size e) (I.ok.cab x c hfn hc)))).trans e1⟩
    · obtain ⟨o', e1⟩ := I.base.there b o e hx
      exact ⟨o', (hs.2 b (Nat.ne_of_lt (Nat.lt_of_lt_of_le (Heap.lt_size e) (I.ok.cab x c hfn hc)))).trans e1⟩
    · by_cases hj : j = i
      · subst hj
        rw [hi] at e1; cases e1
        rw [List.getElem?_set_self hiσ] at e2
        cases e2
        exact ⟨u, r, .inr ⟨.inl hk, c, hc, hc'⟩⟩
      · rw [List.getElem?_set_ne (Ne.symm hj)] at e2
        obtain ⟨u', r', q⟩ := hl j y v' e1 e2 e3
        refine ⟨u', r', ?_⟩
        rcases q with q | ⟨k, c', e, z'⟩
        · exact .inl q
        · refine .inr ⟨k, c', e, z'.sameBut hs ?_⟩
          rintro rfl
          exact hj (nodup_ix hN e1 (I.ok.inj _ _ _ e hc ▸ hi))
    · by_cases hcc : c' = c
      · subst hcc; exact ⟨_, hc'⟩
      · obtain ⟨w2, z2⟩ := I.cell y c' e
        exact ⟨w2, z2.sameBut hs hcc⟩
    · obtain ⟨e, n, ne, nf, d⟩ := I.pin p hp
      refine ⟨(hs.2 p.1 ?_).trans e, n, ne, nf, d⟩
      intro q
      rw [q, hoc] at e
      have q' : oc = p.2 := Option.some.inj e
      exact d w' (by rw [← q']; exact hocd)
theorem store_ok {M : Model} {A : Around} {E : Value → Shared → Prop} {i : Nat} {x : Str} {v : V} {u : Value} {Q : Unit → Shared → Prop} (I : Inv X pins σ H s) (hN : X.N.Nodup) (hi : X.N[i]? = some x) (hx : Loc X.env.scope x) (r : RelV v u)
    (h : ∀ s', Inv X pins (σ.set i (some v)) H s' → Q () s') (hf : X.fn x = true ∨ X.env.scope.names.lookup x = some .local := by first | exact .inl rfl | exact .inr rfl | assumption) : wpAny M A (storeName X.env x u) Q E s :=
  store_ok2 I hN hi hx r (fun s' I' _ => h s' I') hf
theorem Inv.call' {s' : Shared} {ch : List Addr} (I : Inv X pins σ H s) (ho : s'.os = s.os) (u : Un (frs X.stack) ch H H' s.heap s'.heap) (hok : HOk X.prog X.w H' s'.heap) (hg : AllBare s'.gens)
    (hch : ∀ b ∈ ch, (b ∈ X.ex ∨ X.s₀.heap.objs.size ≤ b) ∧ b ≠ X.env.locals ∧ (∀ x c, X.env.cells.lookup x = some c → c ≠ b) ∧ ∀ p ∈ X.pn ++ pins, p.1 ≠ b) : Inv X pins σ H' s' := by
  obtain ⟨h', g', d', t', o'⟩ := s'
  have e : o' = s.os := ho
  subst e
  exact I.call (g' := g') (t' := t') (d' := d') u hok hg hch
end
noncomputable abbrev XK := Value → Option Addr → Hp → Prop
noncomputable abbrev St := List (Option V)
noncomputable abbrev VK := V → Hp → Prop
noncomputable abbrev TE := St → Hp → VK → Prop
noncomputable abbrev TT := St → Hp → (Bool → Hp → Prop) → Prop
noncomputable abbrev TA := St → Hp → (List V → Hp → Prop) → Prop
structure Ends where
  nx : St → Hp → Prop
  rt : VK
  bk : St → Hp → Prop := fun _ _ => False
  ct : St → Hp → Prop := fun _ _ => False
noncomputable abbrev TS := Ends → St → Hp → Prop
noncomputable def EP (X : Cx) (pins : List (Addr × Obj)) (σ : St) (Q : VK) (u : Value) (s' : Shared) : Prop := ∃ v H', Inv X pins σ H' s' ∧ RelV v u ∧ Q v H'
noncomputable def TP (X : Cx) (pins : List (Addr × Obj)) (σ : St) (Q : Bool → Hp → Prop) (b : Bool) (s' : Shared) : Prop := ∃ H', Inv X pins σ H' s' ∧ Q b H'
noncomputable def AP (X : Cx) (pins : List (Addr × Obj)) (σ : St) (Q : List V → Hp → Prop) (us : List Value) (s' : Shared) : Prop := ∃ vs H', Inv X pins σ H' s' ∧ Vals vs us ∧ Q vs H'
noncomputable def SP (X : Cx) (pins : List (Addr × Obj)) (D : Ends) (f : Flow) (s' : Shared) : Prop :=
  match f with
  | .next => ∃ σ' H', Inv X pins σ' H' s' ∧ D.nx σ' H'
  | .brk => ∃ σ' H', Inv X pins σ' H' s' ∧ D.bk σ' H'
  | .cont => ∃ σ' H', Inv X pins σ' H' s' ∧ D.ct σ' H'
  | .ret u => ∃ v σ' H', Inv X pins σ' H' s' ∧ RelV v u ∧ D.rt v H'
noncomputable def PE (X : Cx) (e : Expr) (t : TE) : Prop :=
  ∀ (pins : List (Addr × Obj)) (s : Shared) (σ : St) (H : Hp) (Q : VK), Inv X pins σ H s → t σ H Q → wpAny (model X.prog X.w) X.A (eval e X.env) (EP X pins σ Q) X.xe s
noncomputable def PT (X : Cx) (e : Expr) (t : TT) : Prop :=
  ∀ (pins : List (Addr × Obj)) (s : Shared) (σ : St) (H : Hp) (Q : Bool → Hp → Prop), Inv X pins σ H s → t σ H Q → wpAny (model X.prog X.w) X.A (isTrue e X.env (eval e X.env)) (TP X pins σ Q) X.xe s
noncomputable def PW (X : Cx) (e : Expr) (t : TT) : Prop :=
  ∀ (whole : Sem Value) (pins : List (Addr × Obj)) (s : Shared) (σ : St) (H : Hp) (Q : Bool → Hp → Prop), Inv X pins σ H s → t σ H Q → wpAny (model X.prog X.w) X.A (isTrue e X.env whole) (TP X pins σ Q) X.xe s
theorem PW.pt {X : Cx} {e : Expr} {t : TT} (h : PW X e t) : PT X e t := h _
noncomputable def PA (X : Cx) (es : List Expr) (t : TA) : Prop :=
  ∀ (pos : Pos) (pins : List (Addr × Obj)) (s : Shared) (σ : St) (H : Hp) (Q : List V → Hp → Prop), Inv X pins σ H s → t σ H Q → wpAny (model X.prog X.w) X.A (spliced (backTo pos (starEach es X.env))) (AP X pins σ Q) X.xe s
noncomputable def PS (X : Cx) (st : Stmt) (t : TS) : Prop :=
  ∀ (pins : List (Addr × Obj)) (s : Shared) (σ : St) (H : Hp) (D : Ends), Inv X pins σ H s → t D σ H → wpAny (model X.prog X.w) X.A (exec st X.env) (SP X pins D) X.xe s
noncomputable def PSs (X : Cx) (st : List Stmt) (t : TS) : Prop :=
  ∀ (pins : List (Addr × Obj)) (s : Shared) (σ : St) (H : Hp) (D : Ends), Inv X pins σ H s → t D σ H → wpAny (model X.prog X.w) X.A (execs st X.env) (SP X pins D) X.xe s
theorem thn {α : Type} {t : Sem α} {Q Q' : α → Shared → Prop} {M : Model} {A : Around} {E : Value → Shared → Prop} {s : Shared} (h : wpAny M A t Q E s) (hQ : ∀ a s, Q a s → Q' a s) : wpAny M A t Q' E s := wpAny_mono h hQ fun _ _ x => x
end L2
namespace L2
open PySem PySem.Spec PyProof.Rows
section
variable {X : Cx}
theorem bin {a b : Expr} {ta tb : TE} (ha : PE X a ta) (hb : PE X b tb) {pins : List (Addr × Obj)} {s : Shared} {σ : St} {H : Hp} {R : V → V → Hp → Prop} (I : Inv X pins σ H s) (h : ta σ H fun x H1 => tb σ H1 fun y H2 => R x y H2)
    {α : Type} {Q : α → Shared → Prop} {f : Value → Value → Sem α}
    (hf : ∀ v u s2 x y H2, Inv X pins σ H2 s2 → RelV x v → RelV y u → R x y H2 → wpAny (model X.prog X.w) X.A (f v u) Q X.xe s2) :
    wpAny (model X.prog X.w) X.A (eval a X.env) (fun v s₁ => wpAny (model X.prog X.w) X.A (eval b X.env) (fun u s₂ => wpAny (model X.prog X.w) X.A (f v u) Q X.xe s₂) X.xe s₁) X.xe s := by
  refine thn (ha pins s σ H _ I h) fun v s1 ⟨x, H1, I1, r1, q1⟩ => ?_
  refine thn (hb pins s1 σ H1 _ I1 q1) fun u s2 ⟨y, H2, I2, r2, q2⟩ => ?_
  exact hf v u s2 x y H2 I2 r1 r2 q2
noncomputable def tVar (i : Nat) : TE := fun σ H Q => ∃ v, σ[i]? = some (some v) ∧ Q v H
noncomputable def tC (v : V) : TE := fun _ H Q => Q v H
theorem pe_var {i : Nat} {x : Str} {pos : Pos} (hN : X.N[i]? = some x) (hv : Vis X.env.scope x) (hd : (x == ("__debug__" : Str)) = false := by decide) (hcd : (x == ("__classdict__" : Str)) = false := by decide) : PE X (.Name x pos) (tVar i) := by
  intro pins s σ H Q I h
  obtain ⟨v, e, h⟩ := h
  obtain ⟨m, hn, hl⟩ := I.loc
  obtain ⟨u, r, l⟩ := hl i x v hN e hv
  have fin : EP X pins σ Q u s := ⟨v, H, I, r, h⟩
  rcases l with ⟨hk, hm⟩ | ⟨hk, c, hc, hcell⟩
  · exact wpAny_Name (wpAny_loadName_local I.ok.kind hk hn hm fin) hd
  · rcases hk with hk | hk
    · exact wpAny_Name (wpAny_loadName_cell I.ok.kind hk hc hcell fin) hd
    · exact wpAny_Name (wpAny_loadName_free I.ok.kind hk hc hcell fin hcd) hd
theorem pe_int {i j pos} : PE X (.Constant (.int i) j pos) (tC (.int i)) := fun _ _ _ H _ I h => wpAny_Constant_int ⟨.int i, H, I.tok _, ⟨_, rfl⟩, h⟩
theorem pe_bl {b j pos} : PE X (.Constant (.bool b) j pos) (tC (.bl b)) := fun _ _ _ H _ I h => Constant_bool ⟨.bl b, H, I, rfl, h⟩
theorem pe_non {j pos} : PE X (.Constant .none j pos) (tC .non) := fun _ _ _ H _ I h => Constant_none ⟨.non, H, I, rfl, h⟩
noncomputable def Gl (X : Cx) (x : Str) : Prop := X.env.kindOf x = some .globalImplicit
theorem ld_glob {E : Value → Shared → Prop} {pins : List (Addr × Obj)} {s : Shared} {σ : St} {H : Hp} {x : Str} {u : Value} {pos : Pos} {Q : Value → Shared → Prop} (I : Inv X pins σ H s) (hg : Gl X x) (hm : X.mg x = some u) (h : Q u s)
    (hd : (x == ("__debug__" : Str)) = false := by decide) : wpAny (model X.prog X.w) X.A (eval (.Name x pos) X.env) Q E s :=
  Calls.Name_function_global I.ok.kind hg (Calls.loadGlobal_global (by rw [I.ok.glob]; exact I.mod.glob.keeps I.bk) hm h) hd
theorem ld_blt {E : Value → Shared → Prop} {pins : List (Addr × Obj)} {s : Shared} {σ : St} {H : Hp} {x : Str} {u : Value} {pos : Pos} {Q : Value → Shared → Prop} (I : Inv X pins σ H s) (hg : Gl X x) (hm : X.mg x = none) (hv : bootBuiltins x = some u) (h : Q u s)
    (hn : x ≠ "__name__" := by decide) (hd : (x == ("__debug__" : Str)) = false := by decide) : wpAny (model X.prog X.w) X.A (eval (.Name x pos) X.env) Q E s := by
  obtain ⟨mb, h1, h2⟩ := I.mod.blt
  exact Calls.Name_function_global I.ok.kind hg (Calls.loadGlobal_builtin (by rw [I.ok.glob]; exact I.mod.glob.keeps I.bk) hm (by rw [I.ok.blt]; exact h1.keeps I.bk) ((h2 x hn).trans hv) h) hd
theorem pe_bltn {x : Str} {v : V} {u : Value} {pos : Pos} (hg : Gl X x) (hm : X.mg x = none) (hv : bootBuiltins x = some u) (r : RelV v u) (hn : x ≠ "__name__" := by decide) (hd : (x == ("__debug__" : Str)) = false := by decide) : PE X (.Name x pos) (tC v) :=
  fun _ _ _ H _ I h => ld_blt I hg hm hv ⟨v, H, I, r, h⟩ hn hd
variable {a b : Expr} {ta tb : TE} {pos : Pos}
noncomputable def PC (X : Cx) (op : CmpOp) (a b : Expr) (t : TE) : Prop :=
  ∀ (pins : List (Addr × Obj)) (s : Shared) (σ : St) (H : Hp) (Q : VK), Inv X pins σ H s → t σ H Q →
    wpAny (model X.prog X.w) X.A (eval a X.env) (fun v s₁ => wpAny (model X.prog X.w) X.A (eval b X.env) (fun u s₂ => wpAny (model X.prog X.w) X.A (compareOp op v u) (EP X pins σ Q) X.xe s₂) X.xe s₁) X.xe s
theorem nobehind (b : Expr) {op : CmpOp} (h : op ≠ .In) (h2 : op ≠ .NotIn) : behindInMarks op b = false := by
  have e1 : (op == CmpOp.In) = false := by cases op <;> first | rfl | exact absurd rfl h
  have e2 : (op == CmpOp.NotIn) = false := by cases op <;> first | rfl | exact absurd rfl h2
  cases b <;> simp [behindInMarks, e1, e2]
noncomputable def tB (t : TE) : TT := fun σ H Q => t σ H fun x H1 => ∃ c, x = .bl c ∧ Q c H1
theorem pt_cmp {op : CmpOp} {t : TE} (h : PC X op a b t) (h1 : behindInMarks op b = false := by first | exact nobehind _ (by decide) (by decide) | rfl) : PT X (.Compare a [op] [b] pos) (tB t) := by
  intro pins s σ H Q I hw
  refine wpAny_isTrue_Compare1 (thn (h pins s σ H _ I hw) fun v s1 h1 => thn h1 fun u s2 h2 => thn h2 fun c s3 ⟨x, H1, I1, r1, q1⟩ => ?_) h1
  obtain ⟨d, rfl, q⟩ := q1
  cases r1
  exact wpAny_truthy_bool ⟨H1, I1, q⟩
theorem pt_val {e : Expr} {t : TE} (h : PE X e t) (he : ∀ whole, isTrue e X.env whole = (do let v ← whole; standAt e.pos; holding [v] (truthy v)) := by intro _; rfl) : PT X e (tB t) := by
  intro pins s σ H Q I hw
  refine isTrue_plain (thn (h pins s σ H _ I hw) fun v s1 ⟨x, H1, I1, r1, q1⟩ => ?_) (he _)
  obtain ⟨d, rfl, q⟩ := q1
  cases r1
  exact wpAny_truthy_bool ⟨H1, I1, q⟩
variable {tA tB' : TT} {rest : List Expr}
noncomputable def tOr (t u : TT) : TT := fun σ H Q => t σ H fun c H1 => if c = true then Q true H1 else u σ H1 Q
noncomputable def tNot (t : TT) : TT := fun σ H Q => t σ H fun c H1 => Q (!c) H1
theorem pw_or1 (ha : PT X a tA) : PW X (.BoolOp .Or [a] pos) tA := by
  intro wh pins s σ H Q I h
  refine isTrue_or (thn (ha pins s σ H Q I h) fun c s1 e => ?_)
  cases c with
  | false => exact isTrue_or_nil e
  | true => exact e
theorem pw_or (ha : PT X a tA) (hb : PW X (.BoolOp .Or (b :: rest) pos) tB') : PW X (.BoolOp .Or (a :: b :: rest) pos) (tOr tA tB') := by
  intro wh pins s σ H Q I h
  refine isTrue_or (thn (ha pins s σ H _ I h) fun c s1 ⟨H1, I1, q1⟩ => ?_)
  cases c with
  | true => exact ⟨H1, I1, q1⟩
  | false => exact hb wh pins s1 σ H1 Q I1 q1
theorem pt_not (ha : PT X a tA) : PT X (.UnaryOp .Not a pos) (tNot tA) := by
  intro pins s σ H Q I h
  exact isTrue_not (ha pins s σ H (fun c H1 => Q (!c) H1) I h)
noncomputable def tIf (t : TT) (ta tb : TE) : TE := fun σ H Q => t σ H fun c H1 => if c = true then ta σ H1 Q else tb σ H1 Q
theorem pe_ifExp {c : Expr} (hc : PT X c tA) (ha : PE X a ta) (hb : PE X b tb) : PE X (.IfExp c a b pos) (tIf tA ta tb) := by
  intro pins s σ H Q I h
  refine wpAny_IfExp (thn (hc pins s σ H _ I h) fun d s1 ⟨H1, I1, q1⟩ => ?_)
  cases d with
  | true => exact ha pins s1 σ H1 Q I1 q1
  | false => exact hb pins s1 σ H1 Q I1 q1
end
end L2
namespace L2
open PySem PySem.Spec PyProof.Rows
noncomputable def SqL (K : PySem.W.Frag) (H : Hp) (a : Addr) (xs : List V) : Prop :=
  Rd H a (.lst xs) ∨
    ∃ (o : Obj) (its : Array Value) (n : Nat), K.lookup a = some o ∧ o.cls = .type "list" ∧ o.dict = none ∧ o.data = .seq its n ∧ its.size ≤ sizeLine ∧ Vals xs its.toList
noncomputable def SqT (K : PySem.W.Frag) (H : Hp) (a : Addr) (xs : List V) : Prop :=
  Rd H a (.tup xs) ∨
    ∃ (o : Obj) (its : Array Value) (n : Nat), K.lookup a = some o ∧ o.cls = .type "tuple" ∧ o.data = .seq its n ∧ its.size ≤ sizeLine ∧ Vals xs its.toList
noncomputable def absV : Value → Option V
  | .none => some .non
  | .bool b => some (.bl b)
  | .int i _ => some (.int i)
  | .str x _ => some (.str x)
  | .bytes b _ => some (.byt b)
  | .float b _ => some (.flt b)
  | .ref a => some (.ref a)
  | .type n => some (.ty n)
  | _ => none
theorem RelV.abs {x : V} {u : Value} (r : RelV x u) : absV u = some x := by
  cases x with
  | non => cases r; rfl
  | bl _ => cases r; rfl
  | int _ => obtain ⟨t, rfl⟩ := r; rfl
  | str _ => obtain ⟨t, rfl⟩ := r; rfl
  | byt _ => obtain ⟨t, rfl⟩ := r; rfl
  | flt _ => obtain ⟨t, rfl⟩ := r; rfl
  | ref _ => cases r; rfl
  | ty _ => cases r; rfl
theorem RelV.inj {x y : V} {u : Value} (r : RelV x u) (q : RelV y u) : x = y := Option.some.inj (r.abs.symm.trans q.abs)
theorem Vals.inj : ∀ {xs ys : List V} {us : List Value}, Vals xs us → Vals ys us → xs = ys
  | _, _, _, .nil, .nil => rfl
  | _, _, _, .cons r t, .cons r' t' => by rw [r.inj r', Vals.inj t t']
section
variable {X : Cx} {pins : List (Addr × Obj)} {σ : St} {H : Hp} {s : Shared} {a : Addr} {xs ys : List V}
theorem SqL.of {K : PySem.W.Frag} (h : H a = some (.lst xs)) : SqL K H a xs := .inl (.inl h)
theorem SqT.of {K : PySem.W.Frag} (h : H a = some (.tup xs)) : SqT K H a xs := .inl (.inl h)
theorem Inv.list (I : Inv X pins σ H s) (h : SqL X.K H a xs) : ∃ its : List Value, Vals xs its ∧ PlainL s.heap a its.toArray ∧ xs.length ≤ sizeLine := by
  rcases h with h | ⟨o, its, n, hk, hc, hd, hs, hz, r⟩
  · obtain ⟨z, its, n, r, e⟩ := h.ok I.hok
    exact ⟨its, r, ⟨_, n, e, rfl, rfl, rfl⟩, z⟩
  · refine ⟨its.toList, r, ⟨o, n, I.kIn a o hk, hc, hd, by simpa using hs⟩, ?_⟩
    have e := r.length
    simp only [Array.length_toList] at e
    omega
theorem Inv.tuple (I : Inv X pins σ H s) (h : SqT X.K H a xs) : ∃ its : List Value, Vals xs its ∧ IsTup s.heap a its.toArray ∧ xs.length ≤ sizeLine := by
  rcases h with h | ⟨o, its, n, hk, hc, hs, hz, r⟩
  · obtain ⟨z, its, r, p⟩ := h.ok I.hok
    exact ⟨its, r, p, z⟩
  · refine ⟨its.toList, r, ⟨o, I.kIn a o hk, hc, n, by simpa using hs⟩, ?_⟩
    have e := r.length
    simp only [Array.length_toList] at e
    omega
theorem Inv.list_inj (I : Inv X pins σ H s) (h : SqL X.K H a xs) (h' : SqL X.K H a ys) : xs = ys := by
  obtain ⟨its, r, ⟨o, n, e, _, _, d⟩, _⟩ := I.list h
  obtain ⟨its', r', ⟨o', n', e', _, _, d'⟩, _⟩ := I.list h'
  rw [e] at e'; cases e'
  rw [d] at d'
  injection d' with d1 _
  have : its = its' := by simpa using congrArg Array.toList d1
  subst this
  exact r.inj r'
theorem Inv.tuple_inj (I : Inv X pins σ H s) (h : SqT X.K H a xs) (h' : SqT X.K H a ys) : xs = ys := by
  obtain ⟨its, r, ⟨o, e, _, n, d⟩, _⟩ := I.tuple h
  obtain ⟨its', r', ⟨o', e', _, n', d'⟩, _⟩ := I.tuple h'
  rw [e] at e'; cases e'
  rw [d] at d'
  injection d' with d1 _
  have : its = its' := by simpa using congrArg Array.toList d1
  subst this
  exact r.inj r'
end
noncomputable abbrev Cx.wish (X : Cx) (E : Value → Shared → Prop) : Cx := { X with xe := E }
noncomputable abbrev Cx.nox (X : Cx) : Cx := X.wish fun _ _ => False
theorem Cx.Ok.wish {X : Cx} (ok : X.Ok) (E : Value → Shared → Prop) : (X.wish E).Ok :=
  ⟨ok.mod, ok.kind, ok.glob, ok.blt, ok.above, ok.inj, ok.has, ok.cab, ok.hd, ok.frames, ok.stk, ok.exf, ok.bs, ok.bsz, ok.noex, ok.exfs, ok.funs, ok.frf⟩
theorem Cx.Ok.unwish {X : Cx} {E : Value → Shared → Prop} (ok : (X.wish E).Ok) : X.Ok :=
  ⟨ok.mod, ok.kind, ok.glob, ok.blt, ok.above, ok.inj, ok.has, ok.cab, ok.hd, ok.frames, ok.stk, ok.exf, ok.bs, ok.bsz, ok.noex, ok.exfs, ok.funs, ok.frf⟩
section
variable {X : Cx} {pins : List (Addr × Obj)} {σ : St} {H : Hp} {s : Shared} {E : Value → Shared → Prop}
theorem Inv.wish (I : Inv X pins σ H s) (E : Value → Shared → Prop) : Inv (X.wish E) pins σ H s := ⟨I.ok.wish E, I.os, I.bare, I.base, I.loc, I.cell, I.free, I.freeC, I.pin, I.hok, I.len⟩
theorem Inv.unwish (I : Inv (X.wish E) pins σ H s) : Inv X pins σ H s := ⟨I.ok.unwish, I.os, I.bare, I.base, I.loc, I.cell, I.free, I.freeC, I.pin, I.hok, I.len⟩
theorem SP.unwish {D : Ends} {f : Flow} {s' : Shared} (h : SP (X.wish E) pins D f s') : SP X pins D f s' := by
  cases f with
  | next => obtain ⟨σ', H', I, q⟩ := h; exact ⟨σ', H', I.unwish, q⟩
  | brk => obtain ⟨σ', H', I, q⟩ := h; exact ⟨σ', H', I.unwish, q⟩
  | cont => obtain ⟨σ', H', I, q⟩ := h; exact ⟨σ', H', I.unwish, q⟩
  | ret u => obtain ⟨v, σ', H', I, r, q⟩ := h; exact ⟨v, σ', H', I.unwish, r, q⟩
theorem PSs.nox {st : List Stmt} {t : TS} (h : PSs X.nox st t) : PSs X st t := fun pins s σ H D I hw =>
  wpAny_mono (h pins s σ H D (I.wish _) hw) (fun _ _ q => q.unwish) fun _ _ z => False.elim z
end
section
variable {X : Cx} {st : Stmt} {rest : List Stmt} {t u : TS} {e : Expr} {te : TE} {pos : Pos}
noncomputable def tNext : TS := fun D σ H => D.nx σ H
noncomputable def tSeq (t u : TS) : TS := fun D σ H => t { D with nx := u D } σ H
theorem pss_nil : PSs X [] tNext := fun _ _ σ H _ I h => wpAny_execs_nil ⟨σ, H, I, h⟩
theorem pss_cons (h1 : PS X st t) (h2 : PSs X rest u) : PSs X (st :: rest) (tSeq t u) := by
  intro pins s σ H D I h
  refine wpAny_execs_cons (thn (h1 pins s σ H { D with nx := u D } I h) fun f s1 q => ?_)
  cases f with
  | next =>
    obtain ⟨σ', H', I', q⟩ := q
    exact h2 pins s1 σ' H' D I' q
  | ret v => exact q
  | brk => exact q
  | cont => exact q
theorem pss_one (h1 : PS X st t) : PSs X [st] t := by
  intro pins s σ H D I h
  refine wpAny_execs_cons (thn (h1 pins s σ H D I h) fun f s1 q => ?_)
  cases f with
  | next => exact wpAny_execs_nil q
  | ret v => exact q
  | brk => exact q
  | cont => exact q
theorem Inv.quiet {pins : List (Addr × Obj)} {σ : St} {H : Hp} {s : Shared} (I : Inv X pins σ H s) : interactive X.env = false := by simp [interactive, I.ok.kind]
noncomputable def tDrop (te : TE) : TS := fun D σ H => te σ H fun _ H1 => D.nx σ H1
theorem ps_expr (he : PE X e te) (hs : swapsWith e none pos.line X.env = pure false := by rfl) : PS X (.Expr e pos) (tDrop te) := by
  intro pins s σ H D I h
  exact wpAny_Expr_any (thn (he pins s σ H _ I h) fun v s1 ⟨x, H1, I1, r1, q1⟩ => ⟨σ, H1, I1, q1⟩) I.quiet hs
noncomputable def tRet (te : TE) : TS := fun D σ H => te σ H D.rt
theorem ps_ret (he : PE X e te) : PS X (.Return (some e) pos) (tRet te) := by
  intro pins s σ H D I h
  exact wpAny_Return_some (thn (he pins s σ H _ I h) fun v s1 ⟨x, H1, I1, r1, q1⟩ => ⟨x, σ, H1, I1, r1, q1⟩)
noncomputable def tIfS (c : TT) (t u : TS) : TS := fun D σ H => c σ H fun b H1 => if b = true then t D σ H1 else u D σ H1
theorem ps_if {c : Expr} {a b : List Stmt} {tc : TT} (hc : PT X c tc) (ha : PSs X a t) (hb : PSs X b u) : PS X (.If c a b pos) (tIfS tc t u) := by
  intro pins s σ H D I h
  refine wpAny_If (thn (hc pins s σ H _ I h) fun d s1 ⟨H1, I1, q1⟩ => ?_)
  cases d with
  | true => exact ha pins s1 σ H1 D I1 q1
  | false => exact hb pins s1 σ H1 D I1 q1
end
noncomputable abbrev TG := V → St → Hp → (St → Hp → Prop) → Prop
noncomputable abbrev TGs := List V → St → Hp → (St → Hp → Prop) → Prop
noncomputable def PG (X : Cx) (target : Expr) (t : TG) : Prop :=
  ∀ (pins : List (Addr × Obj)) (s : Shared) (σ : St) (H : Hp) (v : V) (u : Value) (Q : St → Hp → Prop), Inv X pins σ H s → RelV v u → t v σ H Q →
    wpAny (model X.prog X.w) X.A (assign target X.env u) (fun _ s' => ∃ σ' H', Inv X pins σ' H' s' ∧ Q σ' H') X.xe s
noncomputable def PGs (X : Cx) (ts : List Expr) (t : TGs) : Prop :=
  ∀ (pins : List (Addr × Obj)) (s : Shared) (σ : St) (H : Hp) (vs : List V) (us : List Value) (Q : St → Hp → Prop), Inv X pins σ H s → Vals vs us → t vs σ H Q →
    wpAny (model X.prog X.w) X.A (assignInOrder ((assignEach ts X.env).map (·.2)) us) (fun _ s' => ∃ σ' H', Inv X pins σ' H' s' ∧ Q σ' H') X.xe s
noncomputable abbrev TIp := V → V → Hp → VK → Prop
noncomputable def PIp (X : Cx) (op : Operator) (t : TIp) : Prop :=
  ∀ (pins : List (Addr × Obj)) (s : Shared) (σ : St) (H : Hp) (x y : V) (v u : Value) (Q : VK), Inv X pins σ H s → RelV x v → RelV y u → t x y H Q →
    wpAny (model X.prog X.w) X.A (inplaceOp op v u) (EP X pins σ Q) X.xe s
section
variable {X : Cx} {pos : Pos}
noncomputable def gName (i : Nat) : TG := fun v σ H Q => Q (σ.set i (some v)) H
theorem pg_name {i : Nat} {x : Str} (hN : X.N.Nodup) (hi : X.N[i]? = some x) (hx : Loc X.env.scope x) (hf : X.fn x = true ∨ X.env.scope.names.lookup x = some .local := by first | exact .inl rfl | exact .inr rfl | assumption) : PG X (.Name x pos) (gName i) := by
  intro pins s σ H v u Q I r h
  exact wpAny_assign_Name (store_ok I hN hi hx r (fun s' I' => ⟨_, H, I', h⟩) hf)
noncomputable def gNil : TGs := fun vs σ H Q => vs = [] ∧ Q σ H
noncomputable def gCons (t : TG) (u : TGs) : TGs := fun vs σ H Q => ∃ v r, vs = v :: r ∧ t v σ H fun σ' H' => u r σ' H' Q
theorem pgs_nil : PGs X [] gNil := by
  intro pins s σ H vs us Q I r h
  obtain ⟨e, h⟩ := h
  subst e
  cases r
  exact assignInOrder_nil ⟨σ, H, I, h⟩
theorem pgs_cons {e : Expr} {es : List Expr} {t : TG} {u : TGs} (h1 : PG X e t) (h2 : PGs X es u)
    (hs : (assignEach (e :: es) X.env).map (·.2) = assign e X.env :: (assignEach es X.env).map (·.2) := by rfl) : PGs X (e :: es) (gCons t u) := by
  intro pins s σ H vs us Q I r h
  obtain ⟨v, vr, e1, h⟩ := h
  subst e1
  cases r with
  | cons r rr =>
    rw [hs]
    refine assignInOrder_cons (thn (h1 pins s σ H _ _ _ I r h) fun _ s1 ⟨σ1, H1, I1, q1⟩ => ?_)
    exact h2 pins s1 σ1 H1 _ _ Q I1 rr q1
noncomputable def gTup (K : PySem.W.Frag) (n : Nat) (t : TGs) : TG := fun v σ H Q => ∃ a xs, v = .ref a ∧ SqT K H a xs ∧ xs.length = n ∧ t xs σ H Q
theorem pg_tup {es : List Expr} {k : Nat} {t : TGs} {n : Nat} (hc : X.calm = true) (h : PGs X es t)
    (hn : (assignEach es X.env).length = n := by rfl) (hst : (assignEach es X.env).findIdx? (·.1) = none := by rfl) : PG X (.Tuple es k pos) (gTup X.K n t) := by
  intro pins s σ H v u Q I r hw
  obtain ⟨a, xs, e1, hq, hl, hw⟩ := hw
  subst e1
  cases r
  obtain ⟨its, rv, ht, hz⟩ := I.tuple hq
  refine assign_Tuple_tuple (I.ok.hd hc) ht (by simp [hn, ← hl, rv.length]) hst fun h' hx => ?_
  have I1 : Inv X pins σ H { s with heap := h' } := I.kept (t' := s.toks) fun b o e => hx b o (Nat.ne_of_lt (Heap.lt_size e)) e
  exact h pins _ σ H xs _ Q I1 (by simpa using rv) hw
noncomputable def tAsg (te : TE) (g : TG) : TS := fun D σ H => te σ H fun x H1 => g x σ H1 D.nx
theorem ps_set {i : Nat} {x : Str} {e : Expr} {te : TE} {pos' : Pos} (hN : X.N.Nodup) (hi : X.N[i]? = some x) (hx : Loc X.env.scope x) (he : PE X e te) (hs : swapsWith e (some (.Name x pos')) pos.line X.env = pure false := by rfl) (hf : X.fn x = true ∨ X.env.scope.names.lookup x = some .local := by first | exact .inl rfl | exact .inr rfl | assumption) :
    PS X (.Assign [.Name x pos'] e pos) (tAsg te (gName i)) := by
  intro pins s σ H D I h
  refine wpAny_Assign_Name (thn (he pins s σ H _ I h) fun v s1 ⟨y, H1, I1, r1, q1⟩ => ?_) hs
  exact store_ok I1 hN hi hx r1 (fun s2 I2 => ⟨_, H1, I2, q1⟩) hf
noncomputable def tAug (i : Nat) (te : TE) (ti : TIp) : TS := fun D σ H => ∃ x, σ[i]? = some (some x) ∧ te σ H fun y H1 => ti x y H1 fun z H2 => D.nx (σ.set i (some z)) H2
theorem ps_aug {i : Nat} {x : Str} {e : Expr} {te : TE} {op : Operator} {ti : TIp} {pos' : Pos} (hN : X.N.Nodup) (hi : X.N[i]? = some x) (hx : Loc X.env.scope x) (he : PE X e te) (ho : PIp X op ti) (hf : X.fn x = true ∨ X.env.scope.names.lookup x = some .local := by first | exact .inl rfl | exact .inr rfl | assumption) :
    PS X (.AugAssign (.Name x pos') op e pos) (tAug i te ti) := by
  intro pins s σ H D I h
  obtain ⟨v, e1, h⟩ := h
  obtain ⟨m, hn, hl⟩ := I.loc
  have vis : Vis X.env.scope x := by rcases hx with k | k; exact .inl k; exact .inr (.inl k)
  obtain ⟨u, r, l⟩ := hl i x v hi e1 vis
  refine wpAny_AugAssign_Name ?_
  have go : wpAny (model X.prog X.w) X.A (eval e X.env) (fun w s₂ => wpAny (model X.prog X.w) X.A (inplaceOp op u w) (fun r s₃ => wpAny (model X.prog X.w) X.A (storeName X.env x r) (fun _ => SP X pins D .next) X.xe s₃) X.xe s₂) X.xe s := by
    refine thn (he pins s σ H _ I h) fun w s1 ⟨y, H1, I1, r1, q1⟩ => ?_
    refine thn (ho pins s1 σ H1 v y u w _ I1 r r1 q1) fun z s2 ⟨zv, H2, I2, r2, q2⟩ => ?_
    exact store_ok I2 hN hi hx r2 (fun s3 I3 => ⟨_, H2, I3, q2⟩) hf
  rcases l with ⟨hk, hm⟩ | ⟨hk, c, hc, hcell⟩
  · exact wpAny_loadName_local I.ok.kind hk hn hm go
  · rcases hk with hk | hk
    · exact wpAny_loadName_cell I.ok.kind hk hc hcell go
    · rcases hx with k | k
      · have : X.env.scope.names.lookup x = some .free := hk
        rw [k] at this; cases this
      · have : X.env.scope.names.lookup x = some .free := hk
        rw [k] at this; cases this
end
section
variable {X : Cx} {pos : Pos}
noncomputable def tWhile (c : TT) (tb : TS) : TS := fun D σ H => ∃ W : Nat → St → Hp → Prop, (∃ m, W m σ H) ∧ ∀ m σ H, W m σ H →
  c σ H fun b H1 => if b = true then ∃ N : St → Hp → Prop, (∀ σ' H', N σ' H' → ∃ m', m' < m ∧ W m' σ' H') ∧ tb { D with nx := N, ct := N, bk := D.nx } σ H1 else D.nx σ H1
theorem ps_while {c : Expr} {body : List Stmt} {tc : TT} {tb : TS} (hp : PassesOwn (model X.prog X.w) X.A X.env X.xe) (hc : PT X c tc) (hb : PSs X body tb) : PS X (.While c body [] pos) (tWhile tc tb) := by
  intro pins s σ H D I h
  obtain ⟨W, ⟨m0, w0⟩, turn⟩ := h
  refine wpAny_While (codeAny_whileLoop (fun n s' => ∃ σ' H', Inv X pins σ' H' s' ∧ W n σ' H') ?_ m0 ⟨σ, H, I, w0⟩)
  rintro n s1 ⟨σ1, H1, I1, w1⟩
  refine wpAny_passesOwn hp (thn (hc pins s1 σ1 H1 _ I1 (turn n σ1 H1 w1)) fun b s2 ⟨H2, I2, q2⟩ => ?_)
  cases b with
  | true =>
    obtain ⟨N, hN, q2⟩ := q2
    rw [if_pos rfl]
    refine wpAny_passesOwn hp (thn (hb pins s2 σ1 H2 _ I2 q2) fun f s3 q3 => ?_)
    cases f with
    | next =>
      obtain ⟨σ3, H3, I3, n3⟩ := q3
      obtain ⟨m', hm, w3⟩ := hN σ3 H3 n3
      exact ⟨m', hm, σ3, H3, I3, w3⟩
    | cont =>
      obtain ⟨σ3, H3, I3, n3⟩ := q3
      obtain ⟨m', hm, w3⟩ := hN σ3 H3 n3
      exact ⟨m', hm, σ3, H3, I3, w3⟩
    | brk => exact q3
    | ret v => exact q3
  | false =>
    rw [if_neg Bool.false_ne_true]
    exact wpAny_execs_nil ⟨σ1, H2, I2, q2⟩
end
structure It where
  go : Nat → Hp → Prop
  yld : Nat → Hp → V → Hp → Prop
  stop : Nat → Hp → Prop
noncomputable def FpOk (X : Cx) (pins : List (Addr × Obj)) (H : Hp) (b : Addr) : Prop :=
  H b = none ∧ b ≠ X.env.locals ∧ b ∉ X.fs ∧ (b ∈ X.ex ∨ X.s₀.heap.objs.size ≤ b) ∧ (∀ x c, X.env.cells.lookup x = some c → c ≠ b) ∧ ∀ p ∈ X.pn ++ pins, p.1 ≠ b
theorem Inv.fpOk {X : Cx} {pins : List (Addr × Obj)} {σ : St} {H H' : Hp} {s : Shared} {b : Addr} (I : Inv X pins σ H s) (hb : s.heap.objs.size ≤ b) (hn : H' b = none) : FpOk X pins H' b := by
  refine ⟨hn, Nat.ne_of_gt (Nat.lt_of_lt_of_le I.lt hb), I.nofs hb, .inr (Nat.le_trans I.sz hb), fun x c e z => ?_, fun p hp z => ?_⟩
  · obtain ⟨v, q⟩ := I.cell x c e
    exact absurd (Nat.lt_of_lt_of_le q.lt (by rw [z]; exact hb)) (Nat.lt_irrefl _)
  · exact absurd (Nat.lt_of_lt_of_le (Heap.lt_size (I.pin p hp).1) (by rw [z]; exact hb)) (Nat.lt_irrefl _)
structure Turn (P : Program) (w : World) (K : PySem.W.Frag) (tg : Expr) (J : It) (fp : List Addr) (it : Addr) (tn : Nat → Heap → Prop) : Prop where
  mem : it ∈ fp
  obj : ∀ i h, tn i h → ∀ b ∈ fp, ∃ o, h.get? b = some o ∧ ∀ v, o.data ≠ .cell v
  keep : ∀ i h h', tn i h → (∀ b ∈ fp, ∀ o, h.get? b = some o → h'.get? b = some o) → tn i h'
  item : ∀ (X : Cx), X.prog = P → X.w = w → X.K = K → X.calm = true → ∀ (i : Nat) (pins : List (Addr × Obj)) (s : Shared) (σ : St) (H : Hp) (E : Value → Shared → Prop), Inv X pins σ H s → (∀ b ∈ fp, FpOk X pins H b) → tn i s.heap → J.go i H →
    wpAny (model P w) X.A (pyNext (.ref it)) (fun r s1 => ∃ u, r = some u ∧
      wpAny (model P w) X.A (letOwnedTupleGo tg (.ref it) u) (fun _ s2 => ∃ x H', Inv X pins σ H' s2 ∧ RelV x u ∧ J.yld i H x H' ∧ tn (i + 1) s2.heap ∧ ∀ b ∈ fp, H' b = none) E s1) E s
  done : ∀ (X : Cx), X.prog = P → X.w = w → X.K = K → X.calm = true → ∀ (i : Nat) (pins : List (Addr × Obj)) (s : Shared) (σ : St) (H : Hp) (E : Value → Shared → Prop), Inv X pins σ H s → (∀ b ∈ fp, FpOk X pins H b) → tn i s.heap → J.stop i H →
    wpAny (model P w) X.A (pyNext (.ref it)) (fun r s1 => r = none ∧ Inv X pins σ H s1) E s
  self : ∀ (A : Around) (i : Nat) (s : Shared) (Q : Value → Shared → Prop) (E : Value → Shared → Prop), tn i s.heap → Q (.ref it) s → wpAny (model P w) A (pyIter (.ref it)) Q E s
noncomputable abbrev TI := St → Hp → (It → Hp → Prop) → Prop
noncomputable def PIE (X : Cx) (pins : List (Addr × Obj)) (σ : St) (tg : Expr) (R : It → Hp → Prop) (itv : Value) (s2 : Shared) : Prop :=
  ∃ (it : Addr) (fp : List Addr) (tn : Nat → Heap → Prop) (J : It) (H' : Hp), itv = .ref it ∧ Inv X pins σ H' s2 ∧ Turn X.prog X.w X.K tg J fp it tn ∧ tn 0 s2.heap ∧ (∀ b ∈ fp, FpOk X pins H' b) ∧ R J H'
noncomputable def PI (X : Cx) (tg iter : Expr) (wi : TI) : Prop :=
  ∀ (pins : List (Addr × Obj)) (s : Shared) (σ : St) (H : Hp) (R : It → Hp → Prop), Inv X pins σ H s → wi σ H R →
    wpAny (model X.prog X.w) X.A (eval iter X.env) (fun v s1 => wpAny (model X.prog X.w) X.A (pyIter v) (PIE X pins σ tg R) X.xe s1) X.xe s
theorem go_of {M : Model} {A : Around} {E : Value → Shared → Prop} {s : Shared} {tg : Expr} {it : Addr} {u : Value} {o : Obj} {n : String} {vs : Array Value} {Q : Unit → Shared → Prop} (ho : s.heap.get? it = some o) (hc : o.cls = .type n) (hd : o.data = .fields vs)
    (hn : ["enumerate", "zip", "dict_itemiterator", "dict_reverseitemiterator", "odict_iterator", "itertools.zip_longest", "itertools.pairwise"].contains n = false) (hQ : Q () s) : wpAny M A (letOwnedTupleGo tg (.ref it) u) Q E s := by
  unfold letOwnedTupleGo
  cases tg <;> first
    | exact wpAny_pure hQ
    | (cases u <;> first
        | exact wpAny_pure hQ
        | (refine wpAny_bind (wpAny_load ho ?_)
           rw [hc, hd]
           show wpAny M A (if (["enumerate", "zip", "dict_itemiterator", "dict_reverseitemiterator", "odict_iterator", "itertools.zip_longest", "itertools.pairwise"].contains n && vs[0]? == some (rawInt _)) = true then _ else _) Q E s
           rw [if_neg (by intro h; rw [hn, Bool.false_and] at h; cases h)]
           exact wpAny_pure hQ))
noncomputable def Itl (K : PySem.W.Frag) (a : Addr) : It :=
  ⟨fun i H => ∃ xs x, SqL K H a xs ∧ xs[i]? = some x, fun i H x H' => H' = H ∧ ∀ xs, SqL K H a xs → xs[i]? = some x, fun i H => ∃ xs, SqL K H a xs ∧ xs.length ≤ i⟩
noncomputable def Itt (K : PySem.W.Frag) (a : Addr) : It :=
  ⟨fun i H => ∃ xs x, SqT K H a xs ∧ xs[i]? = some x, fun i H x H' => H' = H ∧ ∀ xs, SqT K H a xs → xs[i]? = some x, fun i H => ∃ xs, SqT K H a xs ∧ xs.length ≤ i⟩
noncomputable def Itr (lo : Int) (n : Nat) : It := ⟨fun i _ => i < n, fun i H x H' => H' = H ∧ x = .int (lo + i), fun i _ => n ≤ i⟩
theorem turn_list {P : Program} {w : World} {K : PySem.W.Frag} {tg : Expr} (a it : Addr) : Turn P w K tg (Itl K a) [it] it (fun i h => h.IsListIter it a i) where
  mem := by simp
  obj := fun i h st b hb => by
    have e : b = it := by simpa using hb
    subst e
    obtain ⟨o, e, c, d⟩ := st
    exact ⟨o, e, fun v z => by rw [d] at z; cases z⟩
  keep := fun i h h' st k => st.at fun o e => k it (by simp) o e
  item := by
    intro X hP hw hK hc i pins s σ H E I hf st hg
    subst hP hw hK
    obtain ⟨xs, x, hq, hx⟩ := hg
    obtain ⟨its, rv, p, hz⟩ := I.list hq
    obtain ⟨u, hu, ru⟩ := rv.get hx
    obtain ⟨f0, f1, f2, f3, f4, f5⟩ := hf it (by simp)
    refine wpAny_pyNext_list_item st p.isList (x := u) (by simpa using hu) fun h' st' sb => ?_
    have I1 : Inv X pins σ H { s with heap := h' } := I.turned (t' := s.toks) (fun b o hb e => (sb.2 b hb).trans e) f0 f1 f3 f4 f5
    obtain ⟨o, e, c, d⟩ := id st'
    exact ⟨u, rfl, go_of (s := { s with heap := h' }) e c d (by decide) ⟨x, H, I1, ru, ⟨rfl, fun ys hy => by rw [I.list_inj hy hq]; exact hx⟩, st', fun b hb => (hf b hb).1⟩⟩
  done := by
    intro X hP hw hK hc i pins s σ H E I hf st hg
    subst hP hw hK
    obtain ⟨xs, hq, hx⟩ := hg
    obtain ⟨its, rv, p, hz⟩ := I.list hq
    obtain ⟨f0, f1, f2, f3, f4, f5⟩ := hf it (by simp)
    have hl := rv.length
    exact wpAny_pyNext_list_end (I.ok.hd hc) st p.isList (by simp; omega) fun h' eb => ⟨rfl, I.turned (t' := s.toks) (fun b o hb e => eb b o hb e) f0 f1 f3 f4 f5⟩
  self := fun _ _ _ _ _ st h => wpAny_pyIter_listiter st h
theorem turn_tuple {P : Program} {w : World} {K : PySem.W.Frag} {tg : Expr} (a it : Addr) : Turn P w K tg (Itt K a) [it] it (fun i h => h.IsTupleIter it a i) where
  mem := by simp
  obj := fun i h st b hb => by
    have e : b = it := by simpa using hb
    subst e
    obtain ⟨o, e, c, d⟩ := st
    exact ⟨o, e, fun v z => by rw [d] at z; cases z⟩
  keep := fun i h h' st k => st.at fun o e => k it (by simp) o e
  item := by
    intro X hP hw hK hc i pins s σ H E I hf st hg
    subst hP hw hK
    obtain ⟨xs, x, hq, hx⟩ := hg
    obtain ⟨its, rv, p, hz⟩ := I.tuple hq
    obtain ⟨u, hu, ru⟩ := rv.get hx
    obtain ⟨f0, f1, f2, f3, f4, f5⟩ := hf it (by simp)
    refine wpAny_pyNext_tuple_item st (show s.heap.IsTuple a its.toArray from p) (x := u) (by simpa using hu) fun h' st' sb => ?_
    have I1 : Inv X pins σ H { s with heap := h' } := I.turned (t' := s.toks) (fun b o hb e => (sb.2 b hb).trans e) f0 f1 f3 f4 f5
    obtain ⟨o, e, c, d⟩ := id st'
    exact ⟨u, rfl, go_of (s := { s with heap := h' }) e c d (by decide) ⟨x, H, I1, ru, ⟨rfl, fun ys hy => by rw [I.tuple_inj hy hq]; exact hx⟩, st', fun b hb => (hf b hb).1⟩⟩
  done := by
    intro X hP hw hK hc i pins s σ H E I hf st hg
    subst hP hw hK
    obtain ⟨xs, hq, hx⟩ := hg
    obtain ⟨its, rv, p, hz⟩ := I.tuple hq
    obtain ⟨f0, f1, f2, f3, f4, f5⟩ := hf it (by simp)
    have hl := rv.length
    exact wpAny_pyNext_tuple_end (I.ok.hd hc) st (show s.heap.IsTuple a its.toArray from p) (by simp; omega) fun h' eb => ⟨rfl, I.turned (t' := s.toks) (fun b o hb e => eb b o hb e) f0 f1 f3 f4 f5⟩
  self := fun _ _ _ _ _ st h => wpAny_pyIter_tupleiter st h
theorem turn_range {P : Program} {w : World} {K : PySem.W.Frag} {tg : Expr} (it : Addr) (lo : Int) (n : Nat) : Turn P w K tg (Itr lo n) [it] it (fun i h => IsRangeIter h it (lo + (i : Nat) * 1) ((n : Int) - (i : Nat)) 1) where
  mem := by simp
  obj := fun i h st b hb => by
    have e : b = it := by simpa using hb
    subst e
    exact ⟨_, st, fun v z => by
      have z' : Data.fields _ = Data.cell v := z
      cases z'⟩
  keep := fun i h h' st k => k it (by simp) _ st
  item := by
    intro X hP hw hK hc i pins s σ H E I hf st hg
    subst hP hw hK
    obtain ⟨f0, f1, f2, f3, f4, f5⟩ := hf it (by simp)
    have W := Walks.range (prog := X.prog) (w := X.w) (I.ok.hd hc) it lo 1 n
    refine W.item i s _ _ hg st fun v h' tk hv st' kk => ?_
    obtain ⟨t, rfl⟩ := hv
    have I1 : Inv X pins σ H { s with heap := h', toks := tk } := I.turned (fun b o hb e => kk b o (by simpa using hb) e) f0 f1 f3 f4 f5
    refine ⟨_, rfl, go_of (s := { s with heap := h', toks := tk }) (n := "range_iterator") st' rfl rfl (by decide) ⟨.int (lo + i), H, I1, ⟨t, ?_⟩, ⟨rfl, rfl⟩, st', fun b hb => (hf b hb).1⟩⟩
    rw [Int.mul_one]
  done := by
    intro X hP hw hK hc i pins s σ H E I hf st hg
    subst hP hw hK
    obtain ⟨f0, f1, f2, f3, f4, f5⟩ := hf it (by simp)
    exact wpAny_pyNext_range_end (I.ok.hd hc) st (by have : n ≤ i := hg; omega) fun h' eb => ⟨rfl, I.turned (t' := s.toks) (fun b o hb e => eb b o hb e) f0 f1 f3 f4 f5⟩
  self := fun _ _ _ _ _ st h => wpAny_pyIter_rangeiter st h
end L2
namespace L2
open PySem PySem.Spec PyProof.Rows
section
variable {X : Cx} {tg : Expr}
noncomputable def iList (K : PySem.W.Frag) (tl : TE) : TI := fun σ H R => tl σ H fun x H1 => ∃ a, x = .ref a ∧ (∃ xs, SqL K H1 a xs) ∧ R (Itl K a) H1
theorem pi_list {l : Expr} {tl : TE} (hl : PE X l tl) : PI X tg l (iList X.K tl) := by
  intro pins s σ H R I h
  refine thn (hl pins s σ H _ I h) fun v s1 ⟨x, H1, I1, r1, q1⟩ => ?_
  obtain ⟨a, e, ⟨xs, hq⟩, q⟩ := q1
  subst e
  cases r1
  obtain ⟨its, rv, p, hz⟩ := I1.list hq
  refine wpAny_pyIter_list p.isList ?_
  refine ⟨s1.heap.objs.size, [s1.heap.objs.size], _, _, H1, rfl, I1.kept (t' := s1.toks) fun b o e => Heap.get?_push_of_some _ e, turn_list a _, ⟨_, Heap.get?_push_size _ rfl, rfl, rfl⟩, fun b hb => ?_, q⟩
  have e : b = s1.heap.objs.size := by simpa using hb
  subst e
  exact I1.fpOk (Nat.le_refl _) (I1.hok.fresh (Nat.le_refl _))
theorem range_it {pins : List (Addr × Obj)} {σ : St} {H : Hp} {s : Shared} {R : It → Hp → Prop} {E : Value → Shared → Prop} {lo hi : Int} {t u v : Tok} {tk : Nat} (I : Inv X pins σ H s) (h1 : -(2 ^ 62) ≤ lo) (h2 : lo < 2 ^ 62) (h3 : -(2 ^ 62) ≤ hi) (h4 : hi < 2 ^ 62)
    (q : R (Itr lo (hi - lo).toNat) H) : wpAny (model X.prog X.w) X.A (pyIter (.ref s.heap.objs.size)) (PIE X pins σ tg R) E { s with heap := s.heap.push { cls := .type "range", data := .fields #[.int lo t, .int hi u, .int 1 v] }, toks := tk } := by
  refine wpAny_pyIter_range (IsRange.new ..) (small_one h1 h2 h3 h4) ?_
  have I1 : Inv X pins σ H { s with heap := s.heap.push { cls := .type "range", data := .fields #[.int lo t, .int hi u, .int 1 v] }, toks := tk } := I.kept fun b o e => Heap.get?_push_of_some _ e
  refine ⟨(s.heap.push { cls := .type "range", data := .fields #[.int lo t, .int hi u, .int 1 v] }).objs.size, [(s.heap.push { cls := .type "range", data := .fields #[.int lo t, .int hi u, .int 1 v] }).objs.size], _, _, H, rfl,
    I1.kept (t' := tk) fun b o e => Heap.get?_push_of_some _ e, turn_range _ lo (hi - lo).toNat, ?_, fun b hb => ?_, q⟩
  · have e1 : lo + ((0 : Nat) : Int) * 1 = lo := by simp
    have e2 : (((hi - lo).toNat : Nat) : Int) - ((0 : Nat) : Int) = Builtin.Range.rangeSize lo hi 1 := by rw [rangeSize_one]; split <;> omega
    show IsRangeIter _ _ (lo + ((0 : Nat) : Int) * 1) ((((hi - lo).toNat : Nat) : Int) - ((0 : Nat) : Int)) 1
    rw [e1, e2]
    exact Heap.get?_push_size _ rfl
  · have e : b = (s.heap.push { cls := .type "range", data := .fields #[.int lo t, .int hi u, .int 1 v] }).objs.size := by simpa using hb
    subst e
    exact I1.fpOk (Nat.le_refl _) (I1.hok.fresh (Nat.le_refl _))
noncomputable def iRng1 (ta : TA) : TI := fun σ H R => ta σ H fun vs H1 => ∃ j : Int, vs = [.int j] ∧ -(2 ^ 62) ≤ j ∧ j < 2 ^ 62 ∧ R (Itr 0 j.toNat) H1
noncomputable def iRng2 (ta : TA) : TI := fun σ H R => ta σ H fun vs H1 => ∃ i j : Int, vs = [.int i, .int j] ∧ (-(2 ^ 62) ≤ i ∧ i < 2 ^ 62 ∧ -(2 ^ 62) ≤ j ∧ j < 2 ^ 62) ∧ R (Itr i (j - i).toNat) H1
theorem pi_range1 {a : Expr} {ta : TA} {p pos : Pos} (hg : Gl X "range") (hm : X.mg "range" = none) (ha : PA X [a] ta) (hs : starEach [a] X.env = [(false, eval a X.env)] := by rfl) : PI X tg (.Call (.Name "range" p) [a] [] pos) (iRng1 ta) := by
  intro pins s σ H R I h
  refine Call_ (ld_blt I hg hm boot_range (PyProof.Rows.callWith_type1 (thn (ha pos pins s σ H _ I h) fun us s1 ⟨vs, H1, I1, r1, q1⟩ => ?_) hs rfl))
  obtain ⟨j, e, q1, q2, q⟩ := q1
  subst e
  cases r1 with
  | cons r rr =>
    cases rr
    obtain ⟨t, rfl⟩ := r
    exact call_range_1 (range_it I1 (by omega) (by omega) q1 q2 (by simpa using q))
theorem pi_range2 {a b : Expr} {ta : TA} {p pos : Pos} (hg : Gl X "range") (hm : X.mg "range" = none) (ha : PA X [a, b] ta) (hs : starEach [a, b] X.env = [(false, eval a X.env), (false, eval b X.env)] := by rfl) (hs2 : starEach [b] X.env = [(false, eval b X.env)] := by rfl) :
    PI X tg (.Call (.Name "range" p) [a, b] [] pos) (iRng2 ta) := by
  intro pins s σ H R I h
  refine Call_ (ld_blt I hg hm boot_range (PyProof.Rows.callWith_type1 (thn (ha pos pins s σ H _ I h) fun us s1 ⟨vs, H1, I1, r1, q1⟩ => ?_) (by rw [hs, hs2]) (by rw [hs2]; rfl)))
  obtain ⟨i, j, e, ⟨q1, q2, q3, q4⟩, q⟩ := q1
  subst e
  cases r1 with
  | cons r rr =>
    cases rr with
    | cons r' rr =>
      cases rr
      obtain ⟨t, rfl⟩ := r
      obtain ⟨t', rfl⟩ := r'
      exact call_range_2 (range_it I1 q1 q2 q3 q4 q)
noncomputable def tFor (wi : TI) (g : TG) (tb : TS) : TS := fun D σ H => wi σ H fun J H1 => ∃ W : Nat → Nat → St → Hp → Prop, (∃ m, W 0 m σ H1) ∧ ∀ i m σ H, W i m σ H →
  (J.stop i H ∧ D.nx σ H) ∨ (J.go i H ∧ ∃ N : St → Hp → Prop, (∀ σ' H', N σ' H' → ∃ m', m' < m ∧ W (i + 1) m' σ' H') ∧ ∀ x H', J.yld i H x H' → g x σ H' fun σ2 H2 => tb { D with nx := N, ct := N, bk := D.nx } σ2 H2)
noncomputable def pinsAt (fp : List Addr) (h : Heap) : List (Addr × Obj) := fp.filterMap fun b => (h.get? b).map fun o => (b, o)
theorem mem_pinsAt {fp : List Addr} {h : Heap} {b : Addr} {o : Obj} (hb : b ∈ fp) (e : h.get? b = some o) : (b, o) ∈ pinsAt fp h := List.mem_filterMap.mpr ⟨b, hb, by rw [e]; rfl⟩
theorem of_pinsAt {fp : List Addr} {h : Heap} {p : Addr × Obj} (hp : p ∈ pinsAt fp h) : p.1 ∈ fp ∧ h.get? p.1 = some p.2 := by
  obtain ⟨b, hb, e⟩ := List.mem_filterMap.mp hp
  cases q : h.get? b with
  | none => rw [q] at e; cases e
  | some o =>
    rw [q] at e
    have e' : (b, o) = p := Option.some.inj e
    subst e'
    exact ⟨hb, q⟩
theorem Inv.pinned {pins : List (Addr × Obj)} {σ : St} {H : Hp} {s : Shared} {fp : List Addr} (I : Inv X pins σ H s) (hf : ∀ b ∈ fp, FpOk X pins H b) (ho : ∀ b ∈ fp, ∃ o, s.heap.get? b = some o ∧ ∀ v, o.data ≠ .cell v) : Inv X (pins ++ pinsAt fp s.heap) σ H s :=
  I.pins_of fun p hp => (List.mem_append.mp hp).elim (fun z => I.pin p (List.mem_append_right _ z)) fun z => by
    obtain ⟨hb, e⟩ := of_pinsAt z
    obtain ⟨f0, f1, f2, _⟩ := hf p.1 hb
    obtain ⟨o, e', d⟩ := ho p.1 hb
    rw [e] at e'; cases e'
    exact ⟨e, f0, f1, f2, d⟩
theorem Inv.unpinned {pins pl : List (Addr × Obj)} {σ : St} {H : Hp} {s : Shared} (I : Inv X (pins ++ pl) σ H s) : Inv X pins σ H s := I.pins_of fun p hp => I.pin p (List.mem_append_right _ (List.mem_append_left _ hp))
theorem ps_for {iter : Expr} {body : List Stmt} {wi : TI} {g : TG} {tb : TS} {pos : Pos} (hp : PassesOwn (model X.prog X.w) X.A X.env X.xe) (hc : X.calm = true) (hi : PI X tg iter wi) (hg : PG X tg g) (hb : PSs X body tb)
    (hs : ∀ x, foldedSetIterable iter X.env x = pure x := by intro _; rfl) : PS X (.For tg iter body [] pos) (tFor wi g tb) := by
  intro pins s σ H D I h
  refine wpAny_For (thn (hi pins s σ H _ I h) fun v s1 h1 => thn h1 fun itv s2 h2 => ?_) hs
  obtain ⟨it, fp, tn, J, H2, e, I2, T, st2, f2, W, ⟨m0, w0⟩, turn⟩ := h2
  subst e
  have stat : ∀ {H' : Hp}, (∀ b ∈ fp, H' b = none) → ∀ b ∈ fp, FpOk X pins H' b := fun hn b hb => ⟨hn b hb, (f2 b hb).2⟩
  refine codeAny_forLoop_any (fun n s' => ∃ i σ' H', Inv X pins σ' H' s' ∧ tn i s'.heap ∧ (∀ b ∈ fp, H' b = none) ∧ W i n σ' H') ?_ m0 ⟨0, σ, H2, I2, st2, fun b hb => (f2 b hb).1, w0⟩
  rintro n s3 ⟨i, σ3, H3, I3, st3, fr3, w3⟩
  rcases turn i n σ3 H3 w3 with ⟨stop, qn⟩ | ⟨go, N, hN, step⟩
  · refine wpAny_passesOwn hp (thn (T.done X rfl rfl rfl hc i pins s3 σ3 H3 X.xe I3 (stat fr3) st3 stop) fun r s4 ⟨hr, I4⟩ => ?_)
    subst hr
    exact wpAny_execs_nil ⟨σ3, H3, I4, qn⟩
  · refine wpAny_passesOwn hp (thn (T.item X rfl rfl rfl hc i pins s3 σ3 H3 X.xe I3 (stat fr3) st3 go) fun r s4 ⟨u, hr, h4⟩ => ?_)
    subst hr
    refine wpAny_passesOwn hp (thn h4 fun _ s5 ⟨x, H5, I5, r5, y5, st5, fr5⟩ => ?_)
    have I5' := I5.pinned (stat fr5) (T.obj _ _ st5)
    refine wpAny_passesOwn hp (thn (hg _ s5 σ3 H5 x u _ I5' r5 (step x H5 y5)) fun _ s6 ⟨σ6, H6, I6, q6⟩ => ?_)
    refine wpAny_passesOwn hp (thn (hb _ s6 σ6 H6 _ I6 q6) fun f s7 q7 => ?_)
    have again : ∀ {σ7 : St} {H7 : Hp}, Inv X (pins ++ pinsAt fp s5.heap) σ7 H7 s7 → N σ7 H7 → ∃ m, m < n ∧ ∃ i σ' H', Inv X pins σ' H' s7 ∧ tn i s7.heap ∧ (∀ b ∈ fp, H' b = none) ∧ W i m σ' H' := fun {σ7 H7} I7 n7 => by
      obtain ⟨m', hm, w7⟩ := hN σ7 H7 n7
      refine ⟨m', hm, i + 1, σ7, H7, I7.unpinned, T.keep _ _ _ st5 fun b hb o e => (I7.pin (b, o) (List.mem_append_right _ (List.mem_append_right _ (mem_pinsAt hb e)))).1, fun b hb => ?_, w7⟩
      obtain ⟨o, e, d⟩ := T.obj _ _ st5 b hb
      exact (I7.pin (b, o) (List.mem_append_right _ (List.mem_append_right _ (mem_pinsAt hb e)))).2.1
    cases f with
    | next => obtain ⟨σ7, H7, I7, n7⟩ := q7; exact again I7 n7
    | cont => obtain ⟨σ7, H7, I7, n7⟩ := q7; exact again I7 n7
    | brk => obtain ⟨σ7, H7, I7, q7⟩ := q7; exact ⟨σ7, H7, I7.unpinned, q7⟩
    | ret v => obtain ⟨x7, σ7, H7, I7, r7, q7⟩ := q7; exact ⟨x7, σ7, H7, I7.unpinned, r7, q7⟩
end
theorem for_list {K : PySem.W.Frag} {a : Addr} {xs : List V} {g : TG} {tb : TS} {D : Ends} {σ : St} {H : Hp} (Pv : Nat → St → Hp → Prop) (h0 : Pv 0 σ H) (hl : ∀ i σ H, i ≤ xs.length → Pv i σ H → SqL K H a xs)
    (hs : ∀ i x σ H, xs[i]? = some x → Pv i σ H → g x σ H fun σ2 H2 => tb { D with nx := Pv (i + 1), ct := Pv (i + 1), bk := D.nx } σ2 H2) (hd : ∀ σ H, Pv xs.length σ H → D.nx σ H) :
    ∃ W : Nat → Nat → St → Hp → Prop, (∃ m, W 0 m σ H) ∧ ∀ i m σ H, W i m σ H →
      ((Itl K a).stop i H ∧ D.nx σ H) ∨ ((Itl K a).go i H ∧ ∃ N : St → Hp → Prop, (∀ σ' H', N σ' H' → ∃ m', m' < m ∧ W (i + 1) m' σ' H') ∧ ∀ x H', (Itl K a).yld i H x H' → g x σ H' fun σ2 H2 => tb { D with nx := N, ct := N, bk := D.nx } σ2 H2) := by
  refine ⟨fun i m σ H => m = xs.length - i ∧ i ≤ xs.length ∧ Pv i σ H, ⟨xs.length, by simp, Nat.zero_le _, h0⟩, ?_⟩
  rintro i m σ H ⟨rfl, hi, p⟩
  have q := hl i σ H hi p
  by_cases hlt : i < xs.length
  · refine .inr ⟨⟨xs, xs[i], q, by simp [hlt]⟩, Pv (i + 1), fun σ' H' p' => ⟨xs.length - (i + 1), by omega, rfl, hlt, p'⟩, fun x H' y => ?_⟩
    obtain ⟨e, y⟩ := y
    subst e
    exact hs i x σ _ (y xs q) p
  · have e : i = xs.length := by omega
    subst e
    exact .inl ⟨⟨xs, q, Nat.le_refl _⟩, hd σ H p⟩
end L2
namespace L2
open PySem PySem.Spec PyProof.Rows
noncomputable abbrev R2 := V → V → Hp → VK → Prop
noncomputable def OpR (X : Cx) (f : Value → Value → Sem Value) (r : R2) : Prop :=
  ∀ (pins : List (Addr × Obj)) (s : Shared) (σ : St) (H : Hp) (x y : V) (v u : Value) (Q : VK), Inv X pins σ H s → RelV x v → RelV y u → r x y H Q →
    wpAny (model X.prog X.w) X.A (f v u) (EP X pins σ Q) X.xe s
noncomputable def UnR (X : Cx) (f : Value → Sem Value) (r : V → Hp → VK → Prop) : Prop :=
  ∀ (pins : List (Addr × Obj)) (s : Shared) (σ : St) (H : Hp) (x : V) (v : Value) (Q : VK), Inv X pins σ H s → RelV x v → r x H Q →
    wpAny (model X.prog X.w) X.A (f v) (EP X pins σ Q) X.xe s
noncomputable def CallR (X : Cx) (f : Value) (r : List V → Hp → VK → Prop) : Prop :=
  ∀ (pins : List (Addr × Obj)) (s : Shared) (σ : St) (H : Hp) (xs : List V) (us : List Value) (Q : VK), Inv X pins σ H s → Vals xs us → r xs H Q →
    wpAny (model X.prog X.w) X.A (call f us) (EP X pins σ Q) X.xe s
noncomputable def TruR (X : Cx) (r : V → Hp → (Bool → Hp → Prop) → Prop) : Prop :=
  ∀ (pins : List (Addr × Obj)) (s : Shared) (σ : St) (H : Hp) (x : V) (v : Value) (Q : Bool → Hp → Prop), Inv X pins σ H s → RelV x v → r x H Q →
    wpAny (model X.prog X.w) X.A (truthy v) (TP X pins σ Q) X.xe s
noncomputable def tOp (r : R2) (ta tb : TE) : TE := fun σ H Q => ta σ H fun x H1 => tb σ H1 fun y H2 => r x y H2 Q
noncomputable def tUn (r : V → Hp → VK → Prop) (ta : TE) : TE := fun σ H Q => ta σ H fun x H1 => r x H1 Q
noncomputable def rI (C : Int → Int → Prop) (g : Int → Int → V) : R2 := fun x y H Q => ∃ i j, x = .int i ∧ y = .int j ∧ C i j ∧ Q (g i j) H
noncomputable def rI0 (g : Int → Int → V) : R2 := fun x y H Q => ∃ i j, x = .int i ∧ y = .int j ∧ Q (g i j) H
noncomputable def rU (g : Int → V) : V → Hp → VK → Prop := fun x H Q => ∃ i, x = .int i ∧ Q (g i) H
section
variable {X : Cx} {a b c : Expr} {ta tb tc : TE} {pos : Pos}
theorem binT (ha : PE X a ta) (hb : PE X b tb) {pins : List (Addr × Obj)} {s : Shared} {σ : St} {H : Hp} {R : V → V → Hp → Prop} (I : Inv X pins σ H s)
    (h : ta σ H fun x H1 => tb σ H1 fun y H2 => R x y H2) {Q : Value → Shared → Prop} {f : Value → Value → Sem Value}
    (hf : ∀ v u s2 x y H2, Inv X pins σ H2 s2 → RelV x v → RelV y u → R x y H2 → wpAny (model X.prog X.w) X.A (f v u) Q X.xe s2) :
    wpAny (model X.prog X.w) X.A (eval a X.env) (fun v s₁ => wpAny (model X.prog X.w) X.A (eval b X.env) (fun u s₂ => wpAny (model X.prog X.w) X.A (f v u) Q X.xe s₂) X.xe s₁) X.xe s := by
  refine thn (ha pins s σ H _ I h) fun v s1 ⟨x, H1, I1, r1, q1⟩ => ?_
  refine thn (hb pins s1 σ H1 _ I1 q1) fun u s2 ⟨y, H2, I2, r2, q2⟩ => ?_
  exact hf v u s2 x y H2 I2 r1 r2 q2
theorem pe_op {op : Operator} {r : R2} (ho : OpR X (binaryOp op) r) (ha : PE X a ta) (hb : PE X b tb) : PE X (.BinOp a op b pos) (tOp r ta tb) := by
  intro pins s σ H Q I h
  exact wpAny_BinOp (binT ha hb I h fun v u s2 x y H2 I2 rx ry q => ho pins s2 σ H2 x y v u Q I2 rx ry q)
theorem pe_un {op : UnaryOp} {r : V → Hp → VK → Prop} (ho : UnR X (unaryOp op) r) (ha : PE X a ta) : PE X (.UnaryOp op a pos) (tUn r ta) := by
  intro pins s σ H Q I h
  exact UnaryOp_ (thn (ha pins s σ H _ I h) fun v s1 ⟨x, H1, I1, r1, q1⟩ => ho pins s1 σ H1 x v Q I1 r1 q1)
theorem opI {f : Value → Value → Sem Value} {C : Int → Int → Prop} {g : Int → Int → Int}
    (rule : ∀ (i j : Int) (t u : Tok) (s : Shared) (Q : Value → Shared → Prop) (E : Value → Shared → Prop), C i j → Q (.int (g i j) s.toks) { s with toks := s.toks + 1 } → wpAny (model X.prog X.w) X.A (f (.int i t) (.int j u)) Q E s) :
    OpR X f (rI C fun i j => .int (g i j)) := by
  intro pins s σ H x y v u Q I rx ry h
  obtain ⟨i, j, rfl, rfl, hc, q⟩ := h
  obtain ⟨t, rfl⟩ := rx
  obtain ⟨t', rfl⟩ := ry
  exact rule i j t t' s _ _ hc ⟨.int (g i j), H, I.tok _, ⟨_, rfl⟩, q⟩
theorem opI0 {f : Value → Value → Sem Value} {g : Int → Int → Int}
    (rule : ∀ (i j : Int) (t u : Tok) (s : Shared) (Q : Value → Shared → Prop) (E : Value → Shared → Prop), Q (.int (g i j) s.toks) { s with toks := s.toks + 1 } → wpAny (model X.prog X.w) X.A (f (.int i t) (.int j u)) Q E s) :
    OpR X f (rI0 fun i j => .int (g i j)) := by
  intro pins s σ H x y v u Q I rx ry h
  obtain ⟨i, j, rfl, rfl, q⟩ := h
  obtain ⟨t, rfl⟩ := rx
  obtain ⟨t', rfl⟩ := ry
  exact rule i j t t' s _ _ ⟨.int (g i j), H, I.tok _, ⟨_, rfl⟩, q⟩
theorem opB0 {f : Value → Value → Sem Value} {g : Int → Int → Bool}
    (rule : ∀ (i j : Int) (t u : Tok) (s : Shared) (Q : Value → Shared → Prop) (E : Value → Shared → Prop), Q (.bool (g i j)) s → wpAny (model X.prog X.w) X.A (f (.int i t) (.int j u)) Q E s) :
    OpR X f (rI0 fun i j => .bl (g i j)) := by
  intro pins s σ H x y v u Q I rx ry h
  obtain ⟨i, j, rfl, rfl, q⟩ := h
  obtain ⟨t, rfl⟩ := rx
  obtain ⟨t', rfl⟩ := ry
  exact rule i j t t' s _ _ ⟨.bl (g i j), H, I, rfl, q⟩
noncomputable def CMul (i j : Int) : Prop := (-(2 ^ 64) < i ∧ i < 2 ^ 64) ∨ (-(2 ^ 64) < j ∧ j < 2 ^ 64)
theorem CMul.ok {i j : Int} (h : CMul i j) : IntMulOk i j := by
  rcases h with ⟨h1, h2⟩ | ⟨h1, h2⟩
  · exact .of_left (intBits_le_64 h1 h2)
  · exact .of_right (intBits_le_64 h1 h2)
theorem two_pow_nn (k : Nat) : (0 : Int) ≤ 2 ^ k := by
  rw [two_pow_cast]
  exact Int.natCast_nonneg _
theorem op_add : OpR X (binaryOp .Add) (rI0 fun i j => .int (i + j)) := opI0 fun _ _ _ _ _ _ _ q => add_int q
theorem op_mul : OpR X (binaryOp .Mult) (rI CMul fun i j => .int (i * j)) := opI fun _ _ _ _ _ _ _ hc q => mul_int q hc.ok
theorem op_mod : OpR X (binaryOp .Mod) (rI (fun _ j => 0 < j) fun i j => .int (i % j)) := opI fun i j _ _ _ _ _ hc q => by
  have h1 : (0 : Int) < j := hc
  exact mod_int' (by omega) (by rw [Int.fmod_eq_emod_of_nonneg i (by omega)]; exact q)
theorem op_shr : OpR X (binaryOp .RShift) (rI (fun _ j => 0 ≤ j) fun i j => .int (i / 2 ^ j.toNat)) := opI fun i j _ _ _ _ _ hc q =>
  rshift_int hc (by rw [Int.fdiv_eq_ediv_of_nonneg i (two_pow_nn _)]; exact q)
theorem op_and : OpR X (binaryOp .BitAnd) (rI0 fun i j => .int (Builtin.bitAnd i j)) := opI0 fun _ _ _ _ _ _ _ q => and_int q
theorem op_or : OpR X (binaryOp .BitOr) (rI0 fun i j => .int (Builtin.bitOr i j)) := opI0 fun _ _ _ _ _ _ _ q => or_int q
theorem iop_add : OpR X (inplaceOp .Add) (rI0 fun i j => .int (i + j)) := opI0 fun _ _ _ _ _ _ _ q => iadd_int q
theorem iop_or : OpR X (inplaceOp .BitOr) (rI0 fun i j => .int (Builtin.bitOr i j)) := opI0 fun _ _ _ _ _ _ _ q => ior_int q
theorem unI {f : Value → Sem Value} {g : Int → Int}
    (rule : ∀ (i : Int) (t : Tok) (s : Shared) (Q : Value → Shared → Prop) (E : Value → Shared → Prop), Q (.int (g i) s.toks) { s with toks := s.toks + 1 } → wpAny (model X.prog X.w) X.A (f (.int i t)) Q E s) :
    UnR X f (rU fun i => .int (g i)) := by
  intro pins s σ H x v Q I rx h
  obtain ⟨i, rfl, q⟩ := h
  obtain ⟨t, rfl⟩ := rx
  exact rule i t s _ _ ⟨.int (g i), H, I.tok _, ⟨_, rfl⟩, q⟩
theorem un_neg : UnR X (unaryOp .USub) (rU fun i => .int (-i)) := unI fun _ _ _ _ _ q => neg_int q
end
noncomputable def scal : V → V → Bool
  | .non, .non => true | .non, .int _ => true | .int _, .non => true | .non, .bl _ => true | .bl _, .non => true | .non, .str _ => true | .str _, .non => true
  | .int _, .int _ => true | .bl _, .bl _ => true | .str _, .str _ => true | .byt _, .byt _ => true
  | .int _, .str _ => true | .str _, .int _ => true | .bl _, .str _ => true | .str _, .bl _ => true
  | _, _ => false
noncomputable def rEq : R2 := fun x y H Q => scal x y = true ∧ Q (.bl (decide (x = y))) H
noncomputable def rNe : R2 := fun x y H Q => scal x y = true ∧ Q (.bl (!decide (x = y))) H
theorem dec_int {i j : Int} : decide (V.int i = V.int j) = (i == j) := by
  rw [Bool.eq_iff_iff]
  simp
theorem dec_bl {i j : Bool} : decide (V.bl i = V.bl j) = (i == j) := by
  rw [Bool.eq_iff_iff]
  simp
theorem dec_str {i j : Str} : decide (V.str i = V.str j) = (i == j) := by
  rw [Bool.eq_iff_iff]
  simp
theorem dec_byt {i j : Array UInt8} : decide (V.byt i = V.byt j) = (i.toList == j.toList) := by
  rw [Bool.eq_iff_iff]
  cases i
  cases j
  simp
section
variable {X : Cx} {a b c : Expr} {ta tb tc : TE} {pos : Pos}
theorem fin_bl {pins : List (Addr × Obj)} {σ : St} {H : Hp} {s : Shared} {Q : VK} {k k' : Bool} (I : Inv X pins σ H s) (q : Q (.bl k) H) (e : k = k') : EP X pins σ Q (.bool k') s := by
  subst e
  exact ⟨.bl k, H, I, rfl, q⟩
theorem op_eq : OpR X (compareOp .Eq) rEq := by
  intro pins s σ H x y v u Q I rx ry h
  obtain ⟨hs, q⟩ := h
  cases x with
  | non =>
    cases rx
    cases y with
    | non => cases ry; exact PySem.EqNone.eq_none_none (fin_bl I q (by simp))
    | bl j => cases ry; exact PySem.EqNone.eq_none_bool (fin_bl I q (by simp))
    | int j => obtain ⟨t', rfl⟩ := ry; exact PySem.EqNone.eq_none_int (fin_bl I q (by simp))
    | str j => obtain ⟨t', rfl⟩ := ry; exact PySem.EqNone.eq_none_str (fin_bl I q (by simp))
    | _ => exact absurd (show false = true from hs) Bool.false_ne_true
  | bl i =>
    cases rx
    cases y with
    | non => cases ry; exact PySem.EqNone.eq_bool_none (fin_bl I q (by simp))
    | bl j => cases ry; exact eq_bool (fin_bl I q dec_bl)
    | str j => obtain ⟨t', rfl⟩ := ry; exact PySem.EqMixed.eq_bool_str (fin_bl I q (by simp))
    | _ => exact absurd (show false = true from hs) Bool.false_ne_true
  | int i =>
    obtain ⟨t, rfl⟩ := rx
    cases y with
    | non => cases ry; exact PySem.EqNone.eq_int_none (fin_bl I q (by simp))
    | int j => obtain ⟨t', rfl⟩ := ry; exact eq_int (fin_bl I q dec_int)
    | str j => obtain ⟨t', rfl⟩ := ry; exact PySem.EqMixed.eq_int_str (fin_bl I q (by simp))
    | _ => exact absurd (show false = true from hs) Bool.false_ne_true
  | str i =>
    obtain ⟨t, rfl⟩ := rx
    cases y with
    | non => cases ry; exact PySem.EqNone.eq_str_none (fin_bl I q (by simp))
    | bl j => cases ry; exact PySem.EqMixed.eq_str_bool (fin_bl I q (by simp))
    | int j => obtain ⟨t', rfl⟩ := ry; exact PySem.EqMixed.eq_str_int (fin_bl I q (by simp))
    | str j => obtain ⟨t', rfl⟩ := ry; exact eq_str (fin_bl I q dec_str)
    | _ => exact absurd (show false = true from hs) Bool.false_ne_true
  | byt i =>
    obtain ⟨t, rfl⟩ := rx
    cases y with
    | byt j => obtain ⟨t', rfl⟩ := ry; exact PySem.W.eq_bytes (fin_bl I q dec_byt)
    | _ => exact absurd (show false = true from hs) Bool.false_ne_true
  | _ => cases y <;> exact absurd (show false = true from hs) Bool.false_ne_true
theorem op_ne : OpR X (compareOp .NotEq) rNe := by
  intro pins s σ H x y v u Q I rx ry h
  obtain ⟨hs, q⟩ := h
  cases x with
  | non =>
    cases rx
    cases y with
    | non => cases ry; exact PySem.EqNone.ne_none_none (fin_bl I q (by simp))
    | bl j => cases ry; exact PySem.EqNone.ne_none_bool (fin_bl I q (by simp))
    | int j => obtain ⟨t', rfl⟩ := ry; exact PySem.EqNone.ne_none_int (fin_bl I q (by simp))
    | str j => obtain ⟨t', rfl⟩ := ry; exact PySem.EqNone.ne_none_str (fin_bl I q (by simp))
    | _ => exact absurd (show false = true from hs) Bool.false_ne_true
  | bl i =>
    cases rx
    cases y with
    | non => cases ry; exact PySem.EqNone.ne_bool_none (fin_bl I q (by simp))
    | bl j => cases ry; exact ne_bool (fin_bl I q (congrArg not dec_bl))
    | str j => obtain ⟨t', rfl⟩ := ry; exact PySem.EqMixed.ne_bool_str (fin_bl I q (by simp))
    | _ => exact absurd (show false = true from hs) Bool.false_ne_true
  | int i =>
    obtain ⟨t, rfl⟩ := rx
    cases y with
    | non => cases ry; exact PySem.EqNone.ne_int_none (fin_bl I q (by simp))
    | int j => obtain ⟨t', rfl⟩ := ry; exact ne_int (fin_bl I q (congrArg not dec_int))
    | str j => obtain ⟨t', rfl⟩ := ry; exact PySem.EqMixed.ne_int_str (fin_bl I q (by simp))
    | _ => exact absurd (show false = true from hs) Bool.false_ne_true
  | str i =>
    obtain ⟨t, rfl⟩ := rx
    cases y with
    | non => cases ry; exact PySem.EqNone.ne_str_none (fin_bl I q (by simp))
    | bl j => cases ry; exact PySem.EqMixed.ne_str_bool (fin_bl I q (by simp))
    | int j => obtain ⟨t', rfl⟩ := ry; exact PySem.EqMixed.ne_str_int (fin_bl I q (by simp))
    | str j => obtain ⟨t', rfl⟩ := ry; exact ne_str (fin_bl I q (congrArg not dec_str))
    | _ => exact absurd (show false = true from hs) Bool.false_ne_true
  | byt i =>
    obtain ⟨t, rfl⟩ := rx
    cases y with
    | byt j => obtain ⟨t', rfl⟩ := ry; exact PySem.W.ne_bytes (fin_bl I q (congrArg not dec_byt))
    | _ => exact absurd (show false = true from hs) Bool.false_ne_true
  | _ => cases y <;> exact absurd (show false = true from hs) Bool.false_ne_true
theorem op_gt : OpR X (compareOp .Gt) (rI0 fun i j => .bl (decide (j < i))) := opB0 fun _ _ _ _ _ _ _ q => gt_int q
theorem op_isN : OpR X (compareOp .Is) (fun x y H Q => y = .non ∧ Q (.bl (decide (x = .non))) H) := by
  intro pins s σ H x y v u Q I rx ry h
  obtain ⟨rfl, q⟩ := h
  cases ry
  refine is_none_gen (fin_bl I q ?_)
  cases x <;> first
    | (cases rx; rfl)
    | (obtain ⟨t, rfl⟩ := rx; rfl)
theorem op_notN : OpR X (compareOp .IsNot) (fun x y H Q => y = .non ∧ Q (.bl (!decide (x = .non))) H) := by
  intro pins s σ H x y v u Q I rx ry h
  obtain ⟨rfl, q⟩ := h
  cases ry
  refine isnot_none_gen (fin_bl I q ?_)
  cases x <;> first
    | (cases rx; rfl)
    | (obtain ⟨t, rfl⟩ := rx; rfl)
theorem nomark (b : Expr) {op : CmpOp} (h : op ≠ .In := by decide) (h2 : op ≠ .NotIn := by decide) : behindInMarks op b = false := by
  have e1 : (op == CmpOp.In) = false := by cases op <;> first | rfl | exact absurd rfl h
  have e2 : (op == CmpOp.NotIn) = false := by cases op <;> first | rfl | exact absurd rfl h2
  cases b <;> simp [behindInMarks, e1, e2]
theorem pe_cmpR {op : CmpOp} {r : R2} (ho : OpR X (compareOp op) r) (ha : PE X a ta) (hb : PE X b tb) (hm : behindInMarks op b = false) : PE X (.Compare a [op] [b] pos) (tOp r ta tb) := by
  intro pins s σ H Q I h
  exact wpAny_Compare1 (binT ha hb I h fun v u s2 x y H2 I2 rx ry q => ho pins s2 σ H2 x y v u Q I2 rx ry q) hm
noncomputable def tTest (t : TE) : TT := fun σ H Q => t σ H fun x H' => ∃ k, x = .bl k ∧ Q k H'
theorem pt_cmpR {op : CmpOp} {r : R2} (ho : OpR X (compareOp op) r) (ha : PE X a ta) (hb : PE X b tb) (hm : behindInMarks op b = false) : PT X (.Compare a [op] [b] pos) (tTest (tOp r ta tb)) := by
  intro pins s σ H Q I h
  refine wpAny_isTrue_Compare1 (thn (ha pins s σ H _ I h) fun v s1 ⟨x, H1, I1, r1, q1⟩ => thn (hb pins s1 σ H1 _ I1 q1) fun u s2 ⟨y, H2, I2, r2, q2⟩ =>
    thn (ho pins s2 σ H2 x y v u _ I2 r1 r2 q2) fun c s3 ⟨z, H3, I3, r3, k, e, q3⟩ => ?_) hm
  subst e
  cases r3
  exact wpAny_truthy_bool ⟨H3, I3, q3⟩
noncomputable def TruV (K : PySem.W.Frag) (x : V) (H : Hp) (k : Bool) : Prop :=
  match x with
  | .non => k = false
  | .bl b => k = b
  | .int i => k = (i != 0)
  | .str y => y.length ≤ sizeLine ∧ k = ((y.length : Int) != 0)
  | .byt y => y.size ≤ sizeLine ∧ k = ((y.size : Int) != 0)
  | .ref p => (∃ xs, SqL K H p xs ∧ k = !xs.isEmpty) ∨ (∃ xs, SqT K H p xs ∧ k = !xs.isEmpty) ∨ ∃ kvs, H p = some (.dK kvs) ∧ k = !kvs.isEmpty
  | _ => False
theorem isEmpty_kv {κ : Type} {kvs : List (κ × V)} {vs : List (κ × Value)} (r : KV kvs vs) : (!vs.isEmpty) = !kvs.isEmpty := by
  cases r <;> rfl
theorem isEmpty_of {xs : List V} {its : List Value} (r : Vals xs its) : (!its.toArray.isEmpty) = !xs.isEmpty := by
  cases r <;> simp
theorem line63 : (sizeLine : Nat) < 2 ^ 63 := by rw [sizeLine_eq]; decide
theorem tru_ok : TruR X (fun x H Q => ∃ k, TruV X.K x H k ∧ Q k H) := by
  intro pins s σ H x v Q I rx h
  obtain ⟨k, e, q⟩ := h
  have hl := line63
  have hs : sizeLine = 16777216 := sizeLine_eq
  cases x with
  | non =>
    cases rx
    have e' : k = false := e
    subst e'
    exact truthy_none ⟨H, I, q⟩
  | bl b =>
    cases rx
    have e' : k = b := e
    subst e'
    exact wpAny_truthy_bool ⟨H, I, q⟩
  | int i =>
    obtain ⟨t, rfl⟩ := rx
    have e' : k = (i != 0) := e
    subst e'
    exact PySem.P.truthy_int ⟨H, I, q⟩
  | str y =>
    obtain ⟨t, rfl⟩ := rx
    obtain ⟨hy, e'⟩ : y.length ≤ sizeLine ∧ k = ((y.length : Int) != 0) := e
    subst e'
    exact PySem.P.truthy_str (by omega) ⟨H, I.tok _, q⟩
  | byt y =>
    obtain ⟨t, rfl⟩ := rx
    obtain ⟨hy, e'⟩ : y.size ≤ sizeLine ∧ k = ((y.size : Int) != 0) := e
    subst e'
    exact PySem.W.truthy_bytes (by omega) ⟨H, I.tok _, q⟩
  | ref p =>
    cases rx
    have e' : (∃ xs, SqL X.K H p xs ∧ k = !xs.isEmpty) ∨ (∃ xs, SqT X.K H p xs ∧ k = !xs.isEmpty) ∨ ∃ kvs, H p = some (.dK kvs) ∧ k = !kvs.isEmpty := e
    rcases e' with ⟨xs, hx, e'⟩ | ⟨xs, hx, e'⟩ | ⟨kvs, hx, e'⟩
    · subst e'
      obtain ⟨its, r, pl, hz⟩ := I.list hx
      have hlen := r.length
      exact wpAny_truthy_list pl.isList (by simp only [List.size_toArray]; omega) ⟨H, I.tok _, by rw [isEmpty_of r]; exact q⟩
    · subst e'
      obtain ⟨its, r, pl, hz⟩ := I.tuple hx
      have hlen := r.length
      exact truthy_tuple pl (by simp only [List.size_toArray]; omega) ⟨H, I.tok _, by rw [isEmpty_of r]; exact q⟩
    · subst e'
      obtain ⟨hz, hS, vs, r, m⟩ : kvs.length ≤ sizeLine ∧ (p == sysModules) = false ∧ ∃ vs, KV kvs vs ∧ s.heap.DictOf (mixKind X.prog X.w) p vs := I.hok p _ hx
      have hlen : kvs.length = vs.length := Paired.length r
      exact wpAny_truthy_dict hS m (by omega) ⟨H, I.tok _, by rw [isEmpty_kv r]; exact q⟩
  | _ => exact (show False from e).elim
theorem vals1 {x : V} {us : List Value} (r : Vals [x] us) : ∃ u, us = [u] ∧ RelV x u := by
  cases r with
  | cons r1 r2 => cases r2; exact ⟨_, rfl, r1⟩
theorem vals2 {x y : V} {us : List Value} (r : Vals [x, y] us) : ∃ u w', us = [u, w'] ∧ RelV x u ∧ RelV y w' := by
  cases r with
  | cons r1 r2 =>
    cases r2 with
    | cons r3 r4 => cases r4; exact ⟨_, _, rfl, r1, r3⟩
noncomputable def LenV (K : PySem.W.Frag) (x : V) (H : Hp) (n : Nat) : Prop :=
  match x with
  | .str y => y.length ≤ sizeLine ∧ n = y.length
  | .byt y => y.size ≤ sizeLine ∧ n = y.size
  | .ref p => (∃ xs, SqL K H p xs ∧ n = xs.length) ∨ ∃ xs, SqT K H p xs ∧ n = xs.length
  | _ => False
theorem call_len : CallR X (.builtin "len") (fun xs H Q => ∃ x n, xs = [x] ∧ LenV X.K x H n ∧ Q (.int n) H) := by
  intro pins s σ H xs us Q I r h
  obtain ⟨x, n, rfl, e, q⟩ := h
  obtain ⟨u, rfl, rx⟩ := vals1 r
  have hl := line63
  have hs : sizeLine = 16777216 := sizeLine_eq
  cases x with
  | str y =>
    obtain ⟨t, rfl⟩ := rx
    obtain ⟨hy, e'⟩ : y.length ≤ sizeLine ∧ n = y.length := e
    subst e'
    exact len_str (by omega) ⟨.int _, H, I.tok _, ⟨_, rfl⟩, q⟩
  | byt y =>
    obtain ⟨t, rfl⟩ := rx
    obtain ⟨hy, e'⟩ : y.size ≤ sizeLine ∧ n = y.size := e
    subst e'
    exact PySem.W.len_bytes (by omega) ⟨.int _, H, I.tok _, ⟨_, rfl⟩, q⟩
  | ref p =>
    cases rx
    have e' : (∃ xs, SqL X.K H p xs ∧ n = xs.length) ∨ ∃ xs, SqT X.K H p xs ∧ n = xs.length := e
    rcases e' with ⟨xs, hx, e'⟩ | ⟨xs, hx, e'⟩
    · subst e'
      obtain ⟨its, r', pl, hz⟩ := I.list hx
      have hlen := r'.length
      exact Calls.call_len_list pl.isList (by simp only [List.size_toArray]; omega) ⟨.int xs.length, H, I.tok _, ⟨_, by simp only [List.size_toArray]; rw [hlen]⟩, q⟩
    · subst e'
      obtain ⟨its, r', pl, hz⟩ := I.tuple hx
      have hlen := r'.length
      exact len_tuple pl (by simp only [List.size_toArray]; omega) ⟨.int xs.length, H, I.tok _, ⟨_, by simp only [List.size_toArray]; rw [hlen]⟩, q⟩
  | _ => exact (show False from e).elim
end
end L2
namespace L2
open PySem PySem.Spec PyProof.Rows
structure ObjM (h : Heap) (x dx C : Addr) (mA : Str → Option Value) : Prop where
  obj : h.get? x = some (PySem.W.instObj C dx)
  ns : h.Ns1 dx mA
  ne : dx ≠ x
theorem lookIn_ns {h : Heap} {dx : Addr} {mA : Str → Option Value} (n : h.Ns1 dx mA) : ∃ od, h.get? dx = some od ∧ ∀ name, PySem.W.lookIn name od = some (mA name) := by
  obtain ⟨o, es, ep, ho, hd, hk, _, hm⟩ := n
  refine ⟨o, ho, fun name => ?_⟩
  have e := hm name
  unfold nsFind findBy at e
  rw [← Array.find?_toList] at e
  unfold PySem.W.lookIn
  rw [hd]
  dsimp only
  split
  · rename_i y q
    rw [q] at e
    exact congrArg some e
  · rename_i q
    rw [q] at e
    have a : es.toList.any (·.refKey) = false := by
      rw [List.any_eq_false]
      intro y hy
      obtain ⟨z, t, hkey⟩ := hk y (Array.mem_toList_iff.mp hy)
      simp [DictEntry.refKey, hkey]
    have a' : ¬ es.toList.any (·.refKey) = true := by rw [a]; exact Bool.false_ne_true
    rw [if_neg a']
    exact congrArg some e
theorem ObjM.look {h : Heap} {x dx C : Addr} {mA : Str → Option Value} (I : ObjM h x dx C mA) : ∃ od, PySem.W.InstAt h x (PySem.W.instObj C dx) C (some od) ∧ ∀ name, PySem.W.lookIn name od = some (mA name) :=
  let ⟨od, ho, hl⟩ := lookIn_ns I.ns
  ⟨od, ⟨I.obj, rfl, rfl, ho⟩, hl⟩
section
variable {prog : Program} {w : World} {A : Around} {E : Value → Shared → Prop} {s : Shared} {K : PySem.W.Frag} {x dx C f : Addr} {mA : Str → Option Value} {name : Str} {v : Value}
end
section
variable {P : Program} {w : World} {H H' : Hp} {h h' : Heap} {a C dx : Addr} {fs fs' : List (Str × V)}
theorem ins_get (hok : HOk P w H h) (e : H a = some (.ins C dx fs)) : ∃ mA, ObjM h a dx C mA ∧ (∀ f, RelO (fs.lookup f) (mA f)) ∧ PySem.Within mA (fs.map (·.1)) ∧ fs.length ≤ 1000 ∧ H dx = some (.own a) := by
  obtain ⟨d, z, ne, ob, mA, n, r, q⟩ := (show ObjOk P w H h a (.ins C dx fs) from hok a _ e)
  exact ⟨mA, ⟨ob, n, ne⟩, r, q, z, d⟩
end
structure Cls (K : PySem.W.Frag) (C : Addr) : Prop where
  pg : PySem.W.plainGet K C Str.empty = true
  hd : PySem.W.hasDictIn K C = true
  po : PySem.W.plainOver K C = true
  sa : PySem.W.findIn K (.ref C) "__setattr__" = some (some (.builtin "object.__setattr__"))
theorem Cls.get {K : PySem.W.Frag} {C : Addr} (c : Cls K C) (f : Str) : PySem.W.plainGet K C f = true := c.pg
structure Con (K : PySem.W.Frag) (C : Addr) (f : Str) (v : V) (u : Value) : Prop where
  at_ : PySem.W.findIn K (.ref C) f = some (some u)
  rel : RelV v u
  get : PySem.W.specialIn K u "__get__" = some none
  cp : PySem.W.copiedNames.contains f = false
structure Meth (K : PySem.W.Frag) (C : Addr) (m : Str) (f : Addr) : Prop where
  at_ : PySem.W.findIn K (.ref C) m = some (some (.ref f))
  fn : PySem.W.isFn K (.ref f) = true
  kp : PySem.W.keepIn K (.ref f) = true
section
variable {X : Cx} {pins : List (Addr × Obj)} {σ : St} {H : Hp} {s : Shared} {a C dx : Addr} {fs : List (Str × V)} {f : Str} {v : V} {A : Around} {E : Value → Shared → Prop}
end
section
variable {X : Cx} {o e value : Expr} {f : Str} {pos pos' tpos : Pos} {ta tv : TE}
end
section
variable {X : Cx} {pins : List (Addr × Obj)} {σ : St} {H : Hp} {s : Shared} {A : Around} {E : Value → Shared → Prop} {Q : Value → Shared → Prop} {c : Value} {b : Bool}
inductive TyOf (K : PySem.W.Frag) (H : Hp) : V → Value → Prop where
  | non : TyOf K H .non (.type "NoneType")
  | bl (x : Bool) : TyOf K H (.bl x) (.type "bool")
  | int (i : Int) : TyOf K H (.int i) (.type "int")
  | str (x : Str) : TyOf K H (.str x) (.type "str")
  | flt (x : UInt64) : TyOf K H (.flt x) (.type "float")
  | lst {a : Addr} {xs : List V} (e : H a = some (.lst xs)) : TyOf K H (.ref a) (.type "list")
  | frz {a : Addr} {o : Obj} {xs : List V} (e : H a = some (.frz o (.lst xs))) : TyOf K H (.ref a) (.type "list")
  | tup {a : Addr} {xs : List V} (e : H a = some (.tup xs)) : TyOf K H (.ref a) (.type "tuple")
  | dK {a : Addr} {kvs : List (Key × V)} (e : H a = some (.dK kvs)) : TyOf K H (.ref a) (.type "dict")
  | dT {a : Addr} {kvs : List (List Key × V)} (e : H a = some (.dT kvs)) : TyOf K H (.ref a) (.type "dict")
  | ins {a C dx : Addr} {fs : List (Str × V)} (e : H a = some (.ins C dx fs)) (cl : Cls K C) (ha : PySem.W.findIn K (.ref C) "__class__" = some (some (.builtin "object.__class__")))
      (hn : PySem.W.specialIn K (.builtin "object.__class__") "__get__" = some (some (.builtin "getset_descriptor.__get__"))) (htk : PySem.W.takesIn K (.builtin "object.__class__") = some true)
      (hm : PySem.W.mroIn K C (.type "object") = some true) : TyOf K H (.ref a) (.ref C)
theorem isinst_ok {x : V} {u t : Value} (I : Inv X pins σ H s) (rx : RelV x u) (ty : TyOf X.K H x t) (e : PySem.W.kitOne X.K t c = some b) (h : ∀ tk, Q (.bool b) { s with toks := tk }) :
    wpAny (model X.prog X.w) A (call (.builtin "isinstance") [u, c]) Q E s := by
  cases ty with
  | non => cases (show u = Value.none from rx); exact PySem.W.kia_one PySem.W.kitx_none I.kIn True.intro e (fun z => nomatch z) h
  | bl y => cases (show u = Value.bool y from rx); exact PySem.W.kia_one PySem.W.kitx_bool I.kIn True.intro e (fun z => nomatch z) h
  | int i => obtain ⟨t, q⟩ := (show ∃ t, u = Value.int i t from rx); cases q; exact PySem.W.kia_one PySem.W.kitx_int I.kIn True.intro e (fun z => nomatch z) h
  | str y => obtain ⟨t, q⟩ := (show ∃ t, u = Value.str y t from rx); cases q; exact PySem.W.kia_one PySem.W.kitx_str I.kIn True.intro e (fun z => nomatch z) h
  | flt y => obtain ⟨t, q⟩ := (show ∃ t, u = Value.float y t from rx); cases q; exact PySem.W.kia_one PySem.W.kitx_float I.kIn True.intro e (fun z => nomatch z) h
  | @lst a xs ea =>
    cases (show u = Value.ref a from rx)
    obtain ⟨_, _, n, _, h1⟩ := (show ObjOk X.prog X.w H s.heap a (.lst xs) from I.hok a _ ea)
    exact PySem.W.kia_one PySem.W.kitx_list I.kIn ⟨_, h1, rfl⟩ e (fun z => nomatch z) h
  | @frz a ob xs ea =>
    cases (show u = Value.ref a from rx)
    obtain ⟨_, _, _, n, _, h1⟩ := (show ObjOk X.prog X.w H s.heap a (.frz ob (.lst xs)) from I.hok a _ ea)
    exact PySem.W.kia_one PySem.W.kitx_list I.kIn ⟨_, h1, rfl⟩ e (fun z => nomatch z) h
  | @tup a xs ea =>
    cases (show u = Value.ref a from rx)
    obtain ⟨_, _, _, p⟩ := (show ObjOk X.prog X.w H s.heap a (.tup xs) from I.hok a _ ea)
    obtain ⟨o, h1, h2, _⟩ := p
    exact PySem.W.kia_one PySem.W.kitx_tuple I.kIn ⟨o, h1, h2⟩ e (fun z => nomatch z) h
  | @dK a kvs ea =>
    cases (show u = Value.ref a from rx)
    obtain ⟨_, _, vs, _, p⟩ := (show ObjOk X.prog X.w H s.heap a (.dK kvs) from I.hok a _ ea)
    obtain ⟨o, es, ep, h1, h2, _⟩ := p
    exact PySem.W.kia_one PySem.W.kitx_dict I.kIn ⟨o, h1, h2.1⟩ e (fun z => nomatch z) h
  | @dT a kvs ea =>
    cases (show u = Value.ref a from rx)
    obtain ⟨_, _, xs, _, o, es, ep, h1, h2, _⟩ := (show ObjOk X.prog X.w H s.heap a (.dT kvs) from I.hok a _ ea)
    exact PySem.W.kia_one PySem.W.kitx_dict I.kIn ⟨o, h1, h2.1⟩ e (fun z => nomatch z) h
  | @ins a C dx fs ea cl ha hn htk hm =>
    cases (show u = Value.ref a from rx)
    obtain ⟨mA, O, _⟩ := ins_get I.hok ea
    obtain ⟨od, J, _⟩ := O.look
    exact PySem.W.kia_one (PySem.W.kitx_own (cl.get _) cl.hd ha hn htk hm) I.kIn J e (fun z => nomatch z) h
end
end L2
namespace L2
open PySem PySem.Spec PyProof.Rows
structure Room (k : Nat) (A : Around) : Prop where
  hd : A.handled = none
  dp : A.depth + 3 * k + 5 < recursionLimit
  un : A.units + 16 * k + 200 < cLine
theorem Room.mono {j k : Nat} {A : Around} (r : Room k A) (h : j ≤ k) : Room j A := ⟨r.hd, by have := r.dp; omega, by have := r.un; omega⟩
theorem Room.deeper {k : Nat} {A : Around} (r : Room (k + 1) A) (env : Env) : Room k (A.deeper env) :=
  ⟨r.hd, by have := r.dp; show A.depth + 1 + 3 * k + 5 < _; omega, by have := r.un; show A.units + 3 + 16 * k + 200 < _; omega⟩
theorem Room.depth {k : Nat} {A : Around} (r : Room k A) : A.depth < recursionLimit := by have := r.dp; omega
theorem Room.units0 {k : Nat} {A : Around} (r : Room k A) : A.units < cLine := by have := r.un; omega
noncomputable def tNil : TA := fun _ H Q => Q [] H
noncomputable def tCons (ta : TE) (tr : TA) : TA := fun σ H Q => ta σ H fun x H1 => tr σ H1 fun xs H2 => Q (x :: xs) H2
section
variable {X : Cx} {e : Expr} {es : List Expr} {te : TE} {t : TA} {pos : Pos}
theorem pa_nil : PA X [] tNil := fun _ _ _ _ H Q I h => Calls.spliced_nil ⟨[], H, I, .nil, h⟩
theorem pa_cons (ha : PE X e te) (hr : PA X es t) (hs : starEach (e :: es) X.env = (false, eval e X.env) :: starEach es X.env := by rfl) : PA X (e :: es) (tCons te t) := by
  intro pos pins s σ H Q I h
  rw [hs]
  show wpAny _ _ (spliced ((false, eval e X.env) :: backTo pos (starEach es X.env))) _ _ s
  refine Calls.spliced_cons (thn (ha pins s σ H _ I h) fun u s1 ⟨x, H1, I1, r1, q1⟩ => ?_)
  exact thn (hr pos pins s1 σ H1 _ I1 q1) fun us s2 ⟨xs, H2, I2, r2, q2⟩ => ⟨x :: xs, H2, I2, .cons r1 r2, q2⟩
noncomputable def tLst (t : TA) : TE := fun σ H Q => t σ H fun xs H1 => xs.length ≤ sizeLine ∧ ∀ p, H1 p = none → Q (.ref p) (upd H1 p (.lst xs))
theorem pe_lst (h : PA X es t) : PE X (.List es pos) (tLst t) := by
  intro pins s σ H Q I hq
  refine wpAny_List_spliced (thn (h pos pins s σ H _ I hq) fun us s1 ⟨xs, H1, I1, r, z, q⟩ => ⟨by rw [← r.length]; exact z, ?_⟩)
  have hf : H1 s1.heap.objs.size = none := I1.hok.fresh (Nat.le_refl _)
  refine ⟨.ref s1.heap.objs.size, upd H1 s1.heap.objs.size (.lst xs), I1.laid (t' := s1.toks) (fun b u e => Heap.get?_push_of_some _ e) (Nat.le_refl _) ?_, rfl, q _ hf⟩
  exact ⟨z, us, 0, r, Heap.get?_push_size _ rfl⟩
end
noncomputable abbrev Sp := List V → Hp → VK → XK → Prop
noncomputable abbrev CXT := List Env → Hp → Shared → XK → Value → Shared → Prop
structure Env0 (P : Program) (w : World) (K : PySem.W.Frag) (mg : Str → Option Value) (base : Heap) (A : Around) (outer : List Env) (s : Shared) (H : Hp) : Prop where
  frames : A.frames = some outer
  mod : Mod K mg base
  bs : ∀ b o, base.get? b = some o → s.heap.get? b = some o ∧ H b = none
  bsz : base.objs.size ≤ s.heap.objs.size
  funs : s.heap.FunFrames base outer
  frf : ∀ b ∈ frs outer, H b = none
  hok : HOk P w H s.heap
  bare : AllBare s.gens
noncomputable def CE (outer : List Env) (P : Program) (w : World) (H : Hp) (s : Shared) (Q : VK) (u : Value) (s' : Shared) : Prop :=
  ∃ v H', s'.os = s.os ∧ AllBare s'.gens ∧ Un (frs outer) [] H H' s.heap s'.heap ∧ HOk P w H' s'.heap ∧ RelV v u ∧ Q v H'
noncomputable def CR (CX : CXT) (outer : List Env) (P : Program) (w : World) (H : Hp) (s : Shared) (Q : VK) (E : XK) (r : Result) (s' : Shared) : Prop :=
  match r with
  | .ok (.ret u) => CE outer P w H s Q u s'
  | .ok _ => False
  | .error e => CX outer H s E e s'
structure FnOk (P : Program) (w : World) (K : PySem.W.Frag) (mg : Str → Option Value) (base : Heap) (CX : CXT) (k : Nat) (f : Addr) (fd : FuncData) (ps : List Str) (sp : Sp) : Prop where
  len : ∀ vs H Q E, sp vs H Q E → vs.length = ps.length
  run : ∀ (A : Around) (outer : List Env) (s : Shared) (H : Hp) (args : Args) (us : List Value) (vs : List V) (Q : VK) (E : XK), Room k A → Env0 P w K mg base A outer s H → BindsTo s fd args (ps.zip us) → Vals vs us → sp vs H Q E →
    codeAny (model P w) A (.call (.ref f) args) (CR CX outer P w H s Q E) s
section
variable {X : Cx} {pins : List (Addr × Obj)} {σ : St} {H : Hp} {s s' : Shared}
theorem Inv.env0 (I : Inv X pins σ H s) : Env0 X.prog X.w X.K X.mg X.base X.A X.stack s H :=
  ⟨I.ok.frames, I.ok.mod, I.bs, Nat.le_trans I.ok.bsz I.sz, I.stack, I.stkFree, I.hok, I.bare⟩
theorem Inv.after {Q : VK} {u : Value} (I : Inv X pins σ H s) (h : CE X.stack X.prog X.w H s Q u s') : EP X pins σ Q u s' := by
  obtain ⟨v, H', os, bare, un, hok, r, q⟩ := h
  obtain ⟨hh, g, d, t, os'⟩ := s'
  obtain rfl : os' = s.os := os
  exact ⟨v, H', I.call (h' := hh) (g' := g) (d' := d) (t' := t) (ch := []) un hok bare (fun b z => absurd z (by simp)), r, q⟩
end
noncomputable def tCall (sp : Sp) (dvs : List V) (E : XK) (t : TA) : TE := fun σ H Q => t σ H fun vs H1 => sp (vs ++ dvs) H1 Q E
noncomputable def Binds (K : PySem.W.Frag) (fd : FuncData) (ps : List Str) (ds : List Value) : Prop :=
  ∀ (s : Shared) (us : List Value), K.In s.heap → (us ++ ds).length = ps.length → BindsTo s fd ⟨us, []⟩ (ps.zip (us ++ ds))
theorem Binds.all {K : PySem.W.Frag} {fd : FuncData} {ps : List Str} (h : ∀ us : List Value, us.length = ps.length → bindArgs fd ⟨us, []⟩ = pure (ps.zip us)) : Binds K fd ps [] := fun s us _ hl => by
  rw [List.append_nil] at hl ⊢
  exact .of_eq (h us hl)
noncomputable def Passes (CX : CXT) (X : Cx) (E : XK) : Prop := ∀ (pins : List (Addr × Obj)) (σ : St) (H : Hp) (s : Shared) (e : Value) (s' : Shared), Inv X pins σ H s → CX X.stack H s E e s' → X.xe e s'
section
variable {X : Cx} {CX : CXT} {k : Nat} {f C : Addr} {fd : FuncData} {ps : List Str} {sp : Sp} {dvs : List V} {ds : List Value} {E : XK} {x m : Str} {p pos apos : Pos} {e o : Expr} {es : List Expr} {ta : TE} {t : TA}
theorem run_fn {pins : List (Addr × Obj)} {σ : St} {H : Hp} {s : Shared} {Q : VK} {us : List Value} {vs : List V} (F : FnOk X.prog X.w X.K X.mg X.base CX k f fd ps sp) (hr : Room k X.A) (hb : Binds X.K fd ps ds) (hd : Vals dvs ds) (hx : Passes CX X E)
    (I : Inv X pins σ H s) (r : Vals vs us) (h : sp (vs ++ dvs) H Q E) : wpAny (model X.prog X.w) X.A (call (.ref f) us) (EP X pins σ Q) X.xe s := by
  have r2 : Vals (vs ++ dvs) (us ++ ds) := r.append hd
  have hl : (us ++ ds).length = ps.length := by rw [← r2.length]; exact F.len _ _ _ _ h
  refine wpAny_call (codeAny_mono (F.run X.A X.stack s H ⟨us, []⟩ (us ++ ds) (vs ++ dvs) Q E hr I.env0 (hb s us I.kIn hl) r2 h) fun r s' hq => ?_)
  cases r with
  | error e => exact hx pins σ H s e s' I hq
  | ok fl =>
    cases fl with
    | ret u => exact I.after hq
    | next => exact False.elim hq
    | brk => exact False.elim hq
    | cont => exact False.elim hq
theorem pe_call (F : FnOk X.prog X.w X.K X.mg X.base CX k f fd ps sp) (hr : Room k X.A) (hg : Gl X x) (hm : X.mg x = some (.ref f)) (hk : PySem.W.keepIn X.K (.ref f) = true) (hb : Binds X.K fd ps ds) (hd : Vals dvs ds) (hx : Passes CX X E)
    (ha : PA X (e :: es) t) (hdb : (x == ("__debug__" : Str)) = false := by decide) (he : starEach (e :: es) X.env = (false, eval e X.env) :: starEach es X.env := by rfl) (hpl : (backTo pos (starEach es X.env)).any (·.1) = false := by rfl) :
    PE X (.Call (.Name x p) (e :: es) [] pos) (tCall sp dvs E t) := by
  intro pins s σ H Q I h
  refine wpAny_Call_Name_kw (ld_glob I hg hm ?_ hdb)
  refine PySem.W.callWith_K (h₀ := X.base) I.ok.mod.kin hk (thn (ha pos pins s σ H _ I h) fun us s1 ⟨vs, H1, I1, r, q⟩ => ⟨I1.kIn, ?_⟩) he hpl
  exact run_fn F hr hb hd hx I1 r q
structure Mk (K : PySem.W.Frag) (C f : Addr) : Prop where
  makes : PySem.W.makesIn K C = true
  init : PySem.W.findIn K (.ref C) "__init__" = some (some (.ref f))
  fn : PySem.W.isFn K (.ref f) = true
  kp : PySem.W.keepIn K (.ref C) = true
end
section
variable {X : Cx} {CX : CXT} {k : Nat} {f C : Addr} {fd : FuncData} {ps ks : List Str} {sp : Sp} {E : XK} {x m : Str} {p pos apos kpos : Pos} {e o : Expr} {es : List Expr} {kws : List Keyword} {te ta : TE} {t tk : TA} {nm : Option Str}
structure KBinds (K : PySem.W.Frag) (fd : FuncData) (ps ks : List Str) (g : List Value → List Value → List Value) (gV : List V → List V → List V) : Prop where
  to : ∀ (s : Shared) (us ws : List Value), K.In s.heap → (g us ws).length = ps.length → BindsTo s fd ⟨us, ks.zip ws⟩ (ps.zip (g us ws))
  rel : ∀ {vs : List V} {us : List Value} {zs : List V} {ws : List Value}, Vals vs us → Vals zs ws → Vals (gV vs zs) (g us ws)
variable {g : List Value → List Value → List Value} {gV : List V → List V → List V}
end
structure FnScope (N P : List Str) (sc : Scope) : Prop where
  kind : sc.kind = .function
  co : sc.isCoroutine = false
  gen : sc.isGenerator = false
  nd : N.Nodup
  pre : N.take P.length = P
  par : ∀ x ∈ P, sc.names.lookup x = some .local ∨ sc.names.lookup x = some .cell
  nofree : ∀ y ∈ sc.names, y.2 ≠ .free
theorem bindL_out {kindOf : Str → Option NameKind} {x : Str} : ∀ {binds : List (Str × Value)} {m : Str → Option Value}, (∀ v, (x, v) ∉ binds) → bindL kindOf binds m x = m x
  | [], _, _ => rfl
  | (n, v) :: r, m, h => by
    unfold bindL
    rw [bindL_out fun w hw => h w (List.mem_cons_of_mem _ hw)]
    split
    · have : x ≠ n := by rintro rfl; exact h v List.mem_cons_self
      simp [this]
    · rfl
theorem bindC_out {kindOf : Str → Option NameKind} {x : Str} : ∀ {binds : List (Str × Value)} {m : Str → Option Value}, (∀ v, (x, v) ∉ binds) → bindC kindOf binds m x = m x
  | [], _, _ => rfl
  | (n, v) :: r, m, h => by
    unfold bindC
    rw [bindC_out fun w hw => h w (List.mem_cons_of_mem _ hw)]
    split
    · rfl
    · have : x ≠ n := by rintro rfl; exact h v List.mem_cons_self
      simp [this]
theorem bindL_get {kindOf : Str → Option NameKind} {x : Str} {v : Value} : ∀ {P : List Str} {vs : List Value} {i : Nat} {m : Str → Option Value}, P.Nodup → P[i]? = some x → vs[i]? = some v → kindOf x = some .local →
    bindL kindOf (P.zip vs) m x = some v
  | [], _, _, _, _, h, _, _ => by simp at h
  | _ :: _, [], _, _, _, _, h, _ => by simp at h
  | p :: P, w :: vs, 0, m, nd, h1, h2, hk => by
    simp at h1 h2; subst h1; subst h2
    show bindL kindOf ((p, w) :: P.zip vs) m p = _
    unfold bindL
    rw [bindL_out fun v hv => (List.nodup_cons.mp nd).1 (List.of_mem_zip hv).1, if_pos hk]
    simp
  | p :: P, w :: vs, i + 1, m, nd, h1, h2, hk => by
    show bindL kindOf ((p, w) :: P.zip vs) m x = _
    unfold bindL
    exact bindL_get (i := i) (List.nodup_cons.mp nd).2 (by simpa using h1) (by simpa using h2) hk
theorem bindC_get {kindOf : Str → Option NameKind} {x : Str} {v : Value} : ∀ {P : List Str} {vs : List Value} {i : Nat} {m : Str → Option Value}, P.Nodup → P[i]? = some x → vs[i]? = some v → kindOf x ≠ some .local →
    bindC kindOf (P.zip vs) m x = some v
  | [], _, _, _, _, h, _, _ => by simp at h
  | _ :: _, [], _, _, _, _, h, _ => by simp at h
  | p :: P, w :: vs, 0, m, nd, h1, h2, hk => by
    simp at h1 h2; subst h1; subst h2
    show bindC kindOf ((p, w) :: P.zip vs) m p = _
    unfold bindC
    rw [bindC_out fun v hv => (List.nodup_cons.mp nd).1 (List.of_mem_zip hv).1, if_neg hk]
    simp
  | p :: P, w :: vs, i + 1, m, nd, h1, h2, hk => by
    show bindC kindOf ((p, w) :: P.zip vs) m x = _
    unfold bindC
    exact bindC_get (i := i) (List.nodup_cons.mp nd).2 (by simpa using h1) (by simpa using h2) hk
noncomputable def start (N : List Str) (vs : List V) : St := vs.map some ++ List.replicate (N.length - vs.length) none
noncomputable def cxOf (CX : CXT) (P : Program) (w : World) (K : PySem.W.Frag) (mg : Str → Option Value) (base : Heap) (N : List Str) (qual : Str) (scope : Scope) (f : Addr) (cd : Value) (A : Around) (outer : List Env) (s : Shared) (H : Hp) (E : XK) : Cx where
  prog := P
  w := w
  K := K
  mg := mg
  base := base
  A := A.deeper (envOfC qual scope s.heap.objs.size f cd)
  N := N
  s₀ := s
  H₀ := H
  env := envOfC qual scope s.heap.objs.size f cd
  outer := outer
  stack := envOfC qual scope s.heap.objs.size f cd :: outer
  ex := []
  calm := true
  fn := fun _ => true
  pn := []
  xe := fun e s' => wpAny (model P w) (A.deeper (envOfC qual scope s.heap.objs.size f cd)) (leaving (envOfC qual scope s.heap.objs.size f cd) e) (fun _ s'' => CX outer H s E e s'') (fun e' s'' => CX outer H s E e' s'') s'
theorem cell_has {sc : Scope} {n : Nat} {x : Str} (h : sc.names.lookup x = some .cell) : ∃ c, (cellsFrom n sc.names []).lookup x = some c := by
  have q := PySem.W.cellsFrom_some sc.names n [] (.inl h)
  exact Option.isSome_iff_exists.mp q
theorem inv_start {CX : CXT} {P : Program} {w : World} {K : PySem.W.Frag} {mg : Str → Option Value} {base : Heap} {N ps : List Str} {qual : Str} {scope : Scope} {f : Addr} {cd : Value} {A : Around} {outer : List Env} {s s1 : Shared} {H : Hp} {E : XK} {us : List Value} {vs : List V}
    (S : FnScope N ps scope) (hd : A.handled = none) (e0 : Env0 P w K mg base A outer s H) (hl : vs.length = ps.length) (r : Vals vs us)
    (x : InCallC s s.heap.objs.size (bindL (envOfC qual scope s.heap.objs.size f cd).kindOf (ps.zip us) fun _ => none) (cellsFrom (s.heap.objs.size + 1) scope.names []) (bindC (envOfC qual scope s.heap.objs.size f cd).kindOf (ps.zip us) fun _ => none) s1) :
    Inv (cxOf CX P w K mg base N qual scope f cd A outer s H E) [] (start N vs) H s1 := by
  have hpl : ps.length ≤ N.length := by have := congrArg List.length S.pre; rw [List.length_take] at this; omega
  obtain ⟨h1, tk, rfl, hk⟩ := x.done
  have noA : ∀ b : Addr, b ∉ (cxOf CX P w K mg base N qual scope f cd A outer s H E).ex := fun b z => absurd (show b ∈ ([] : List Addr) from z) (by simp)
  refine ⟨⟨e0.mod, S.kind, rfl, rfl, Nat.le_refl _, fun y z c h1 h2 => ?_, fun y hy => ?_, fun y c _ h => ?_, fun _ => hd, Around.frames_deeper e0.frames, .inr ⟨rfl, rfl⟩, fun b z => absurd z (noA b), e0.bs, e0.bsz, fun b _ _ => noA b, fun b z => absurd z (noA b), e0.funs, e0.frf⟩,
    rfl, e0.bare, Un.kept hk, ⟨_, x.toInCall.ns, fun i y v h1 h2 h3 => ?_⟩, fun y c h => ⟨_, x.cell y c h⟩, e0.hok.fresh (Nat.le_refl _), fun y c h => ?_, fun p hp => absurd (show p ∈ ([] : List (Addr × Obj)) from hp) (by simp), e0.hok.kept hk, ?_⟩
  · exact name_of_addr x.apart (PySem.mem_of_lookup h1) (PySem.mem_of_lookup h2)
  · have hy : scope.names.lookup y = some .cell ∨ scope.names.lookup y = some .free := hy
    rcases hy with hy | hy
    · exact cell_has hy
    · exact absurd rfl (S.nofree _ (PySem.mem_of_lookup hy))
  · exact Nat.le_of_lt (x.above y c (PySem.mem_of_lookup h))
  · have hi : i < vs.length := by
      unfold start at h2
      by_cases hi : i < vs.length
      · exact hi
      · rw [List.getElem?_append_right (by simpa using hi)] at h2
        rw [List.getElem?_replicate] at h2
        split at h2 <;> cases h2
    have ha : vs[i]? = some v := by
      unfold start at h2
      rw [List.getElem?_append_left (by simpa using hi), List.getElem?_map] at h2
      cases e : vs[i]? with
      | none => rw [e] at h2; cases h2
      | some a => rw [e] at h2; cases h2; rfl
    obtain ⟨u, hu, rv⟩ := r.get ha
    have hp : ps[i]? = some y := by
      rw [← S.pre, List.getElem?_take_of_lt (by omega)]; exact h1
    have ndP : ps.Nodup := by rw [← S.pre]; exact S.nd.sublist (List.take_sublist _ _)
    refine ⟨u, rv, ?_⟩
    rcases S.par y (List.mem_of_getElem? hp) with k | k
    · exact .inl ⟨k, bindL_get ndP hp hu k⟩
    · obtain ⟨c, e⟩ := cell_has (n := s.heap.objs.size + 1) k
      refine .inr ⟨.inl k, c, e, ?_⟩
      have q := x.cell y c e
      rw [bindC_get ndP hp hu (by show scope.names.lookup y ≠ _; rw [k]; decide)] at q
      exact q
  · exact e0.hok.fresh (Nat.le_of_lt (x.above y c (PySem.mem_of_lookup h)))
  · unfold start
    show _ = N.length
    rw [List.length_append, List.length_map, List.length_replicate]
    omega
theorem fn_of {CX : CXT} {P : Program} {w : World} {K : PySem.W.Frag} {mg : Str → Option Value} {base : Heap} {k : Nat} {f : Addr} {name qual : Str} {params : Arguments} {body : List Stmt} {scope : Scope} {dV kV doc pm cdv ct oc : Value} {an od : Option Addr}
    {osl : Array (Option Value)} {N ps : List Str} {sp : Sp} (lk : K.lookup f = some ⟨oc, od, .func (PySem.W.fnOf name qual params body scope dV kV doc pm an cdv ct), osl⟩) (hcd : PySem.W.codeIn K cdv qual = true) (S : FnScope N ps scope)
    (len : ∀ vs H Q E, sp vs H Q E → vs.length = ps.length)
    (hbody : ∀ (A : Around) (outer : List Env) (s : Shared) (H : Hp) (vs : List V) (Q : VK) (E : XK), Room k (A.deeper (envOfC qual scope s.heap.objs.size f cdv)) → sp vs H Q E →
      ∃ t, PSs (cxOf CX P w K mg base N qual scope f cdv A outer s H E) body t ∧ t { nx := fun _ H' => Q .non H', rt := Q } (start N vs) H) :
    FnOk P w K mg base CX (k + 1) f (PySem.W.fnOf name qual params body scope dV kV doc pm an cdv ct) ps sp := by
  refine ⟨len, fun A outer s H args us vs Q E hr e0 hb r hsp => ?_⟩
  have hl := len _ _ _ _ hsp
  have KX : K.In s.heap := e0.mod.kin.keeps fun b o e => (e0.bs b o e).1
  have lim : s.heap.NoLimit := e0.mod.nolimit.keeps fun b o e => (e0.bs b o e).1
  have hkind : ∀ y ∈ ps.zip us, scope.names.lookup y.1 = some .local ∨ (scope.names.lookup y.1 = some .cell ∧ ((cellsFrom (s.heap.objs.size + 1) scope.names []).lookup y.1).isSome = true) := fun ⟨n, v⟩ hy => by
    rcases S.par n (List.of_mem_zip hy).1 with q | q
    · exact .inl q
    · exact .inr ⟨q, PySem.W.cellsFrom_some _ _ _ (.inl q)⟩
  refine codeAny_call_function hr.depth (KX _ _ lk) rfl S.co S.gen rfl (PySem.W.codeRec_of KX hcd) (hb _ _ _ _ ?_)
  refine wpAny_newFunctionEnv_cells S.kind hkind fun env he s1 x => ?_
  subst he
  refine ⟨lim.keeps x.toInCall.keep, codeAny_func ?_⟩
  obtain ⟨t, ht, hq⟩ := hbody A outer s H vs Q E (hr.deeper _) hsp
  have I : Inv (cxOf CX P w K mg base N qual scope f cdv A outer s H E) [] (start N vs) H s1 := inv_start S hr.hd e0 hl r x
  refine wpAny_mono (ht [] s1 (start N vs) H _ I hq) (fun fl s' hs => ?_) fun e s' hs => hs
  have fin : ∀ {σ' : St} {H' : Hp} {v : V} {u : Value}, Inv (cxOf CX P w K mg base N qual scope f cdv A outer s H E) [] σ' H' s' → RelV v u → Q v H' → CE outer P w H s Q u s' :=
    fun {σ' H' v u} J rv q => ⟨v, H', J.os, J.bare, J.base, J.hok, rv, q⟩
  cases fl with
  | ret u =>
    obtain ⟨v, σ', H', J, rv, q⟩ := hs
    exact fin J rv q
  | next =>
    obtain ⟨σ', H', J, q⟩ := hs
    exact fin (v := V.non) (u := Value.none) J rfl q
  | brk =>
    obtain ⟨_, _, _, q⟩ := hs
    exact False.elim q
  | cont =>
    obtain ⟨_, _, _, q⟩ := hs
    exact False.elim q
end L2
namespace L2
open PySem PySem.Spec PyProof.Rows
section
variable {X : Cx} {x : Str} {p pos : Pos} {e : Expr} {es : List Expr} {t : TA} {id T : String} {r : List V → Hp → VK → Prop}
noncomputable def tCB (r : List V → Hp → VK → Prop) (t : TA) : TE := fun σ H Q => t σ H fun vs H1 => r vs H1 Q
theorem pe_callB (hc : CallR X (.builtin id) r) (hg : Gl X x) (hm : X.mg x = none) (hv : bootBuiltins x = some (.builtin id)) (ha : PA X (e :: es) t) (hn : x ≠ "__name__" := by decide) (hdb : (x == ("__debug__" : Str)) = false := by decide)
    (he : starEach (e :: es) X.env = (false, eval e X.env) :: starEach es X.env := by rfl) (hpl : (backTo pos (starEach es X.env)).any (·.1) = false := by rfl) : PE X (.Call (.Name x p) (e :: es) [] pos) (tCB r t) := by
  intro pins s σ H Q I h
  refine wpAny_Call_Name_kw (ld_blt I hg hm hv ?_ hn hdb)
  exact PyProof.Rows.callWith_builtin1 (thn (ha pos pins s σ H _ I h) fun us s1 ⟨vs, H1, I1, r1, q1⟩ => hc pins s1 σ H1 vs us Q I1 r1 q1) he hpl
theorem pe_callTy (hc : CallR X (.type T) r) (hg : Gl X x) (hm : X.mg x = none) (hv : bootBuiltins x = some (.type T)) (ha : PA X (e :: es) t) (hn : x ≠ "__name__" := by decide) (hdb : (x == ("__debug__" : Str)) = false := by decide)
    (he : starEach (e :: es) X.env = (false, eval e X.env) :: starEach es X.env := by rfl) (hpl : (backTo pos (starEach es X.env)).any (·.1) = false := by rfl) : PE X (.Call (.Name x p) (e :: es) [] pos) (tCB r t) := by
  intro pins s σ H Q I h
  refine wpAny_Call_Name_kw (ld_blt I hg hm hv ?_ hn hdb)
  exact PyProof.Rows.callWith_type1 (thn (ha pos pins s σ H _ I h) fun us s1 ⟨vs, H1, I1, r1, q1⟩ => hc pins s1 σ H1 vs us Q I1 r1 q1) he hpl
end
end L2
namespace HT
open PySem PyProof.Rows
section
open PySem.SeqAt
open PySem.AutoSeq1 (wpAny_loadPart')
open PySem.MeetsSeq PySem.MeetsSeq2 PySem.MeetsSeq3
end
section
variable {prog : Program} {w : World} {A : Around} {E : Value → Shared → Prop} {s : Shared}
noncomputable def sIx (n d : Nat) : Option Int → Nat
  | none => d
  | some v => if v < 0 then (v + (n : Int)).toNat else min v.toNat n
end
end HT
namespace L2
open PySem PySem.Spec PyProof.Rows
noncomputable abbrev TO := St → Hp → (Option Int → Hp → Prop) → Prop
noncomputable def PO (X : Cx) (e : Option Expr) (t : TO) : Prop :=
  ∀ (pins : List (Addr × Obj)) (s : Shared) (σ : St) (H : Hp) (Q : Option Int → Hp → Prop), Inv X pins σ H s → t σ H Q →
    wpAny (model X.prog X.w) X.A (evalPart e X.env) (fun u s' => ∃ o H', Inv X pins σ H' s' ∧ IsPart u o ∧ Q o H') X.xe s
noncomputable def tNoPart : TO := fun _ H Q => Q none H
noncomputable def tPart (t : TE) : TO := fun σ H Q => t σ H fun x H1 => ∃ i, x = .int i ∧ Q (some i) H1
theorem intsAre_of {ns : List Int} : ∀ {us : List Value}, Vals (ns.map V.int) us → IntsAre us ns := by
  induction ns with
  | nil => intro us r; rw [List.map_nil] at r; cases r; exact .nil
  | cons n ns ih =>
    intro us r
    rw [List.map_cons] at r
    cases r with
    | cons r1 r2 =>
      obtain ⟨t, e⟩ := r1
      subst e
      exact .cons n t (ih r2)
section
variable {X : Cx} {e : Expr} {te : TE} {lo hi : Option Expr} {tl th : TO} {pos p2 : Pos}
theorem po_none : PO X none tNoPart := by
  intro pins s σ H Q I h
  rw [evalPart_none]
  exact wpAny_pure ⟨none, H, I, .none, h⟩
theorem po_some (h : PE X e te) : PO X (some e) (tPart te) := by
  intro pins s σ H Q I hw
  rw [evalPart_some]
  refine thn (h pins s σ H _ I hw) fun u s1 ⟨x, H1, I1, r1, q1⟩ => ?_
  obtain ⟨i, rfl, q⟩ := q1
  obtain ⟨t, rfl⟩ := r1
  exact ⟨some i, H1, I1, .int i t, q⟩
noncomputable def SlR (X : Cx) (r : V → Option Int → Option Int → Hp → VK → Prop) : Prop :=
  ∀ (pins : List (Addr × Obj)) (s : Shared) (σ : St) (H : Hp) (x : V) (v vl vu : Value) (lo hi : Option Int) (sl : Addr) (Q : VK), Inv X pins σ H s → RelV x v → s.heap.IsSliceOf sl vl vu .none → IsPart vl lo → IsPart vu hi → r x lo hi H Q →
    ∃ T id, typeLookup (.type T) "__getitem__" = pure (some (.builtin id)) ∧ s.TypeIs v T ∧ wpAny (model X.prog X.w) X.A (getItem v (.ref sl)) (EP X pins σ Q) X.xe s
noncomputable def tSl (r : V → Option Int → Option Int → Hp → VK → Prop) (te : TE) (tl th : TO) : TE := fun σ H Q => te σ H fun x H1 => tl σ H1 fun l H2 => th σ H2 fun u H3 => r x l u H3 Q
theorem pe_slice {r : V → Option Int → Option Int → Hp → VK → Prop} (hr : SlR X r) (he : PE X e te) (hl : PO X lo tl) (hu : PO X hi th) : PE X (.Subscript e (.Slice lo hi none p2) pos) (tSl r te tl th) := by
  intro pins s σ H Q I h
  refine Subscript_ (thn (he pins s σ H _ I h) fun v s1 ⟨x, H1, I1, r1, q1⟩ => ?_)
  refine wpAny_Slice (thn (hl pins s1 σ H1 _ I1 q1) fun vl s2 ⟨l, H2, I2, pl, q2⟩ => thn (hu pins s2 σ H2 _ I2 q2) fun vu s3 ⟨u, H3, I3, pu, q3⟩ => ?_)
  rw [evalPart_none]
  refine wpAny_pure ?_
  have I4 : Inv X pins σ H3 { s3 with heap := s3.heap.push { cls := .type "slice", data := .fields #[vl, vu, .none] } } := I3.kept (t' := s3.toks) fun b ob q => Heap.get?_push_of_some _ q
  obtain ⟨T, id, hT, ht, hg⟩ := hr pins { s3 with heap := s3.heap.push { cls := .type "slice", data := .fields #[vl, vu, .none] } } σ H3 x v vl vu l u s3.heap.objs.size Q I4 r1 (Heap.IsSliceOf.new ..) pl pu q3
  show wpAny (model X.prog X.w) X.A (subscriptTail e (.Slice lo hi none p2) v (.ref s3.heap.objs.size)) (EP X pins σ Q) X.xe { s3 with heap := s3.heap.push { cls := .type "slice", data := .fields #[vl, vu, .none] } }
  exact tail_any (ops := [.ref s3.heap.objs.size, v]) ht hT hg (by with_unfolding_all rfl)
noncomputable def cutV (xs : List V) (lo hi : Option Int) : List V := (xs.drop (HT.sIx xs.length 0 lo)).take (HT.sIx xs.length xs.length hi - HT.sIx xs.length 0 lo)
theorem cutV_length (xs : List V) (lo hi : Option Int) : (cutV xs lo hi).length ≤ xs.length := by
  unfold cutV
  rw [List.length_take, List.length_drop]
  omega
end
end L2
namespace L2
open PySem PySem.Spec PyProof.Rows
noncomputable def ixN (n : Nat) (i : Int) : Option Nat := if 0 ≤ i then (if i < n then some i.toNat else none) else if -(n : Int) ≤ i then some (i + n).toNat else none
noncomputable def atI {α : Type} (xs : List α) (i : Int) : Option α := (ixN xs.length i).bind fun j => xs[j]?
theorem ixN_seq {n : Nat} {i : Int} {j : Nat} (h : ixN n i = some j) : seqIndex? i n = some j ∧ j < n ∧ -(n : Int) ≤ i ∧ i < n := by
  unfold ixN at h
  by_cases h0 : 0 ≤ i
  · rw [if_pos h0] at h
    by_cases h1 : i < n
    · rw [if_pos h1] at h
      have e : i.toNat = j := Option.some.inj h
      exact ⟨by rw [seqIndex_of h0 h1, e], by omega, by omega, h1⟩
    · rw [if_neg h1] at h; cases h
  · rw [if_neg h0] at h
    by_cases h1 : -(n : Int) ≤ i
    · rw [if_pos h1] at h
      have e : (i + n).toNat = j := Option.some.inj h
      exact ⟨by rw [seqIndex_neg (by omega) h1, e], by omega, h1, by omega⟩
    · rw [if_neg h1] at h; cases h
theorem atI_get {α : Type} {xs : List α} {i : Int} {v : α} (h : atI xs i = some v) : ∃ j, seqIndex? i xs.length = some j ∧ xs[j]? = some v ∧ j < xs.length ∧ -(xs.length : Int) ≤ i ∧ i < xs.length := by
  unfold atI at h
  cases e : ixN xs.length i with
  | none => rw [e] at h; cases h
  | some j =>
    rw [e] at h
    obtain ⟨h1, h2, h3, h4⟩ := ixN_seq e
    exact ⟨j, h1, h, h2, h3, h4⟩
theorem atI_nat {α : Type} {xs : List α} {j : Nat} {v : α} (h : xs[j]? = some v) : atI xs (j : Int) = some v := by
  have hj : j < xs.length := (List.getElem?_eq_some_iff.mp h).1
  have e : ixN xs.length (j : Int) = some j := by
    unfold ixN
    rw [if_pos (by omega), if_pos (by omega)]; simp
  unfold atI; rw [e]; exact h
theorem atI_last {α : Type} (xs : List α) (v : α) : atI (xs ++ [v]) (-1) = some v := by
  have hl : (xs ++ [v]).length = xs.length + 1 := by simp
  have e : ixN (xs ++ [v]).length (-1) = some xs.length := by
    unfold ixN
    rw [hl, if_neg (by decide), if_pos (by omega)]
    congr 1
    omega
  unfold atI
  rw [e]
  show (xs ++ [v])[xs.length]? = some v
  simp
noncomputable def PlainIx (b : Expr) : Prop := ∀ o i, subscripted b false o i = operate [o, i] (getItem o i)
noncomputable def IxR (X : Cx) (r : R2) : Prop :=
  ∀ (value slice : Expr) (pins : List (Addr × Obj)) (s : Shared) (σ : St) (H : Hp) (x y : V) (v u : Value) (Q : VK), Inv X pins σ H s → RelV x v → RelV y u → r x y H Q →
    subscripted slice false v u = operate [v, u] (getItem v u) → wpAny (model X.prog X.w) X.A (subscriptTail value slice v u) (EP X pins σ Q) X.xe s
noncomputable def MtR (X : Cx) (id : String) (r : V → List V → Hp → VK → Prop) : Prop :=
  ∀ (pins : List (Addr × Obj)) (s : Shared) (σ : St) (H : Hp) (x : V) (xs : List V) (v : Value) (us : List Value) (Q : VK), Inv X pins σ H s → RelV x v → Vals xs us → r x xs H Q →
    wpAny (model X.prog X.w) X.A (call (.builtin id) (v :: us)) (EP X pins σ Q) X.xe s
section
variable {X : Cx} {a b : Expr} {ta tb : TE} {pos : Pos}
theorem pe_ix {r : R2} (hr : IxR X r) (ha : PE X a ta) (hb : PE X b tb) (hs : PlainIx b) : PE X (.Subscript a b pos) (tOp r ta tb) := by
  intro pins s σ H Q I h
  exact Subscript_ (binT ha hb I h fun v u s2 x y H2 I2 rx ry q => hr a b pins s2 σ H2 x y v u Q I2 rx ry q (hs _ _))
noncomputable def rIxL (K : PySem.W.Frag) : R2 := fun x y H Q => ∃ p xs i v, x = .ref p ∧ y = .int i ∧ SqL K H p xs ∧ atI xs i = some v ∧ Q v H
theorem ix_list : IxR X (rIxL X.K) := by
  intro value slice pins s σ H x y v u Q I rx ry h hs
  obtain ⟨p, xs, i, z, rfl, rfl, hq, he, q⟩ := h
  cases rx
  obtain ⟨t, rfl⟩ := ry
  obtain ⟨its, r, pl, hz⟩ := I.list hq
  obtain ⟨j, h1, h2, h3, h4, h5⟩ := atI_get he
  obtain ⟨w, ew, rw'⟩ := r.get h2
  have hl := r.length
  have hn := line63
  have fin : EP X pins σ Q w s := ⟨z, H, I, rw', q⟩
  by_cases h0 : 0 ≤ i
  · have hj : i.toNat = j := by
      rw [seqIndex_of h0 h5] at h1
      exact Option.some.inj h1
    exact item_listR pl.isList h0 (by omega) (by rw [hj]; simpa using ew) fin hs
  · have hj : (i + (its.toArray.size : Int)).toNat = j := by
      rw [seqIndex_neg (by omega) h4] at h1
      rw [List.size_toArray, ← hl]
      exact Option.some.inj h1
    exact subscriptTail_builtinR (x := w) pl.isList.typeIs slot_list_getitem.lookup
      (wpAny_getItem_list_neg (Q := fun r s' => r = w ∧ EP X pins σ Q r s') pl.isList (by omega) (by rw [List.size_toArray] <;> omega) (by omega) (by rw [hj]; simpa using ew) ⟨rfl, fin⟩) hs
theorem slice_bounds (lo hi : Option Int) (n : Nat) : (sliceBounds lo hi none n).1 = ((HT.sIx n 0 lo : Nat) : Int) ∧ (sliceBounds lo hi none n).2.1 = ((HT.sIx n n hi : Nat) : Int) ∧ (sliceBounds lo hi none n).2.2 = 1 := by
  refine ⟨?_, ?_, rfl⟩
  · cases lo with
    | none => simp [sliceBounds, HT.sIx]
    | some i =>
      simp only [sliceBounds, HT.sIx, Option.getD_none, show (1 : Int) > 0 by decide, if_true]
      by_cases h : i < 0
      · simp only [h, if_true] <;> omega
      · simp only [h, if_false] <;> omega
  · cases hi with
    | none => simp [sliceBounds, HT.sIx]
    | some i =>
      simp only [sliceBounds, HT.sIx, Option.getD_none, show (1 : Int) > 0 by decide, if_true]
      by_cases h : i < 0
      · simp only [h, if_true] <;> omega
      · simp only [h, if_false] <;> omega
theorem slicePick_cut (its : List Value) (lo hi : Option Int) : slicePick its.toArray lo hi none = ((its.drop (HT.sIx its.length 0 lo)).take (HT.sIx its.length its.length hi - HT.sIx its.length 0 lo)).toArray := by
  obtain ⟨h1, h2, h3⟩ := slice_bounds lo hi its.toArray.size
  unfold slicePick
  rw [h1, h2, h3]
  simp only [sliceRange_one, pick_run, List.size_toArray] <;> rfl
noncomputable def rSlL (K : PySem.W.Frag) : V → Option Int → Option Int → Hp → VK → Prop := fun x lo hi H Q => ∃ a xs, x = .ref a ∧ SqL K H a xs ∧ ∀ p, H p = none → Q (.ref p) (upd H p (.lst (cutV xs lo hi)))
theorem sl_list : SlR X (rSlL X.K) := by
  intro pins s σ H x v vl vu lo hi sl Q I rx hs pl pu h
  obtain ⟨a, xs, rfl, hx, q⟩ := h
  cases rx
  obtain ⟨its, r, ht, hz⟩ := I.list hx
  have hlen := r.length
  refine ⟨"list", _, slot_list_getitem.lookup, ht.isList.typeIs, ?_⟩
  refine wpAny_getItem_list_slice ht.isList hs pl pu .none (by simp) ?_ (by rw [List.size_toArray] <;> omega)
  rw [slicePick_cut, ← hlen]
  refine ⟨.ref s.heap.objs.size, _, I.laid (t' := s.toks) (o := .lst (cutV xs lo hi)) (fun b ob q => Heap.get?_push_of_some _ q) (Nat.le_refl _) ?_, rfl, q _ (I.hok.fresh (Nat.le_refl _))⟩
  exact ⟨Nat.le_trans (cutV_length xs lo hi) hz, _, 0, (r.drop (HT.sIx xs.length 0 lo)).take (HT.sIx xs.length xs.length hi - HT.sIx xs.length 0 lo), Heap.get?_push_size _ rfl⟩
noncomputable def flatV : V → Bool
  | .non => true
  | .bl _ => true
  | .int _ => true
  | .str _ => true
  | _ => false
noncomputable def eqV : V → V → Bool
  | .non, .non => true
  | .bl a, .bl b => a == b
  | .bl a, .int b => (if a then 1 else 0) == b
  | .int a, .bl b => a == (if b then 1 else 0)
  | .int a, .int b => a == b
  | .str a, .str b => a == b
  | _, _ => false
theorem eqAt_V {A : Around} {s : Shared} {y x : V} {u v : Value} (ry : RelV y u) (rx : RelV x v) (fy : flatV y = true) (fx : flatV x = true) : SeqAt.EqAt A s u v (eqV y x) := by
  cases y with
  | non =>
    cases ry
    cases x with
    | non => cases rx; exact SeqAt.EqAt.same _
    | bl b => cases rx; exact SeqAt.EqAt.none_bool b
    | int b => obtain ⟨t, rfl⟩ := rx; exact SeqAt.EqAt.none_int b t
    | str b => obtain ⟨t, rfl⟩ := rx; exact SeqAt.EqAt.none_str b t
    | _ => exact absurd (show false = true from fx) Bool.false_ne_true
  | bl a =>
    cases ry
    cases x with
    | non => cases rx; exact SeqAt.EqAt.bool_none a
    | bl b => cases rx; exact SeqAt.EqAt.bool_bool a b
    | int b => obtain ⟨t, rfl⟩ := rx; exact SeqAt.EqAt.bool_int a b t
    | str b => obtain ⟨t, rfl⟩ := rx; exact SeqAt.EqAt.bool_str a b t
    | _ => exact absurd (show false = true from fx) Bool.false_ne_true
  | int a =>
    obtain ⟨t', rfl⟩ := ry
    cases x with
    | non => cases rx; exact SeqAt.EqAt.int_none a t'
    | bl b => cases rx; exact SeqAt.EqAt.int_bool a t' b
    | int b => obtain ⟨t, rfl⟩ := rx; exact SeqAt.EqAt.int_int a t' b t
    | str b => obtain ⟨t, rfl⟩ := rx; exact SeqAt.EqAt.int_str a t' b t
    | _ => exact absurd (show false = true from fx) Bool.false_ne_true
  | str a =>
    obtain ⟨t', rfl⟩ := ry
    cases x with
    | non => cases rx; exact SeqAt.EqAt.str_none a t'
    | bl b => cases rx; exact SeqAt.EqAt.str_bool a t' b
    | int b => obtain ⟨t, rfl⟩ := rx; exact SeqAt.EqAt.str_int a t' b t
    | str b => obtain ⟨t, rfl⟩ := rx; exact SeqAt.EqAt.str_str a t' b t
    | _ => exact absurd (show false = true from fx) Bool.false_ne_true
  | _ => exact absurd (show false = true from fy) Bool.false_ne_true
theorem call_list_of : CallR X (.type "list") (fun xs H Q => ∃ p ys, xs = [.ref p] ∧ (SqL X.K H p ys ∨ SqT X.K H p ys) ∧ ∀ l, H l = none → Q (.ref l) (upd H l (.lst ys))) := by
  intro pins s σ H xs us Q I r h
  obtain ⟨p, ys, rfl, hq, q⟩ := h
  obtain ⟨u, rfl, rx⟩ := vals1 r
  cases rx
  have fin : ∀ (its : List Value), Vals ys its → ys.length ≤ sizeLine → ∀ (h' : Heap) (c' : Nat), (∀ b o', s.heap.get? b = some o' → h'.get? b = some o') →
      h'.get? s.heap.objs.size = some { cls := .type "list", dict := none, data := .seq its.toArray c', slots := #[] } → EP X pins σ Q (.ref s.heap.objs.size) { s with heap := h' } := fun its r' hz h' c' kp e =>
    ⟨.ref s.heap.objs.size, _, I.laid (t' := s.toks) kp (Nat.le_refl _) (show ObjOk X.prog X.w _ h' _ (.lst ys) from ⟨hz, its, c', r', e⟩), rfl, q _ (I.hok.fresh (Nat.le_refl _))⟩
  rcases hq with hq | hq
  · obtain ⟨its, r', pl, hz⟩ := I.list hq
    have hlen := r'.length
    obtain ⟨o, ho, hc, n, hd⟩ := pl.isList
    exact call_list_seq p (.inl rfl) ho hc hd (fun h' c' kp e => fin its r' hz h' c' kp e) (by simp only [List.size_toArray] <;> omega)
  · obtain ⟨its, r', pl, hz⟩ := I.tuple hq
    have hlen := r'.length
    obtain ⟨o, ho, hc, n, hd⟩ := pl
    exact call_list_seq p (.inr rfl) ho hc hd (fun h' c' kp e => fin its r' hz h' c' kp e) (by simp only [List.size_toArray] <;> omega)
noncomputable def tyV (K : PySem.W.Frag) (T : String) (x : V) (H : Hp) : Prop := match x with
  | .str _ => T = "str"
  | .int _ => T = "int"
  | .ref p => (T = "list" ∧ ∃ xs, SqL K H p xs) ∨ (T = "tuple" ∧ ∃ o, K.lookup p = some o ∧ o.cls = .type "tuple" ∧ o.dict = none) ∨
      (T = "dict" ∧ ((∃ kvs, H p = some (.dK kvs)) ∨ ∃ kvs, H p = some (.dT kvs))) ∨ (T = "set" ∧ ∃ S n, H p = some (.set S n))
  | _ => False
theorem tyV_is {pins : List (Addr × Obj)} {σ : St} {H : Hp} {s : Shared} {T : String} {x : V} {v : Value} (I : Inv X pins σ H s) (r : RelV x v) (ty : tyV X.K T x H) :
    s.TypeIs v T ∧ ∀ a, v = .ref a → ∃ ob, s.heap.get? a = some ob ∧ ob.dict = none := by
  cases x with
  | str z =>
    obtain ⟨t, rfl⟩ := r
    cases (show T = "str" from ty)
    exact ⟨typeIs_str s z t, fun _ e => nomatch e⟩
  | int i =>
    obtain ⟨t, rfl⟩ := r
    cases (show T = "int" from ty)
    exact ⟨typeIs_int s i t, fun _ e => nomatch e⟩
  | ref p =>
    cases r
    rcases ty with ⟨rfl, xs, hq⟩ | ⟨rfl, o, hk, hc, hd⟩ | ⟨rfl, hk⟩ | ⟨rfl, S, n, hk⟩
    · obtain ⟨its, _, pl, _⟩ := I.list hq
      refine ⟨pl.isList.typeIs, fun a e => ?_⟩
      cases e
      obtain ⟨o, n, e, c, hd, _⟩ := pl
      exact ⟨o, e, hd⟩
    · refine ⟨⟨o, I.kIn p o hk, hc⟩, fun a e => ?_⟩
      cases e
      exact ⟨o, I.kIn _ o hk, hd⟩
    · have z : ∃ o, s.heap.get? p = some o ∧ o.ExactDict := by
        rcases hk with ⟨kvs, hk⟩ | ⟨kvs, hk⟩
        · obtain ⟨_, _, _, _, o, _, _, e, ex, _⟩ := I.hok p _ hk
          exact ⟨o, e, ex⟩
        · obtain ⟨_, _, _, _, o, _, _, e, ex, _⟩ := I.hok p _ hk
          exact ⟨o, e, ex⟩
      obtain ⟨o, e, ex⟩ := z
      refine ⟨⟨o, e, ex.1⟩, fun a e2 => ?_⟩
      cases e2
      exact ⟨o, e, ex.2.1⟩
    · obtain ⟨o, _, _, _, e, ex, _⟩ := I.hok p _ hk
      refine ⟨⟨o, e, ex.1⟩, fun a e2 => ?_⟩
      cases e2
      exact ⟨o, e, ex.2.1⟩
  | _ => exact False.elim ty
noncomputable def tBM (K : PySem.W.Frag) (T : String) (r : V → List V → Hp → VK → Prop) (to : TE) (t : TA) : TE := fun σ H Q => to σ H fun x H1 => tyV K T x H1 ∧ t σ H1 fun xs H2 => r x xs H2 Q
variable {o e : Expr} {es : List Expr} {to : TE} {t : TA} {name : Str} {apos cpos : Pos} {T id : String} {r : V → List V → Hp → VK → Prop}
theorem pe_bm (pa : PlainAttrs T) (slot : Slot T name id) (hty : typeOf (.builtin id) = pure (.type "method_descriptor")) (hm : MtR X id r) (ho : PE X o to) (ha : PA X (e :: es) t)
    (hbase : attributeBase o name X.env (eval o X.env) = eval o X.env := by rfl)
    (hfew : ((backTo cpos (starEach (e :: es) X.env)).all (fun x => !x.1) && (backToKw cpos (keywordEach [] X.env)).all (fun x => x.1.isSome)
      && decide ((e :: es).length + ([] : List Keyword).length + (if ([] : List Keyword).isEmpty then 0 else 1) < 30)) = true := by rfl)
    (hline : (apos.endLine == cpos.line) = true := by rfl) (hs : starEach (e :: es) X.env = (false, eval e X.env) :: starEach es X.env := by rfl) (hplain : (backTo cpos (starEach es X.env)).any (·.1) = false := by rfl) :
    PE X (.Call (.Attribute o name apos) (e :: es) [] cpos) (tBM X.K T r to t) := by
  intro pins s σ H Q I h
  refine wpAny_Call_method_late hbase hfew hline rfl (thn (ho pins s σ H _ I h) fun v s1 ⟨x, H1, I1, r1, ty, q1⟩ => ?_)
  obtain ⟨h1, h2⟩ := tyV_is I1 r1 ty
  refine ⟨T, id, pa, slot, hty, h1, h2, ?_⟩
  have hA := ha cpos pins s1 σ H1 _ I1 q1
  rw [hs] at hA ⊢
  refine Calls.callWith_builtin (by show (false || (backTo cpos (starEach es X.env)).any (·.1)) = false; rw [hplain] <;> rfl) (Calls.evalArgs_plain ?_)
  exact thn hA fun us s2 ⟨vs, H2, I2, r2, q2⟩ => hm pins s2 σ H2 x vs v us Q I2 r1 r2 q2
end
end L2
namespace L2
open PySem PySem.Spec PyProof.Rows
noncomputable def MtM (X : Cx) (id : String) (r : V → List V → Hp → VK → Prop) : Prop :=
  ∀ (pins : List (Addr × Obj)) (s : Shared) (σ : St) (H : Hp) (x : V) (xs : List V) (v : Value) (us : List Value) (Q : VK), Inv X pins σ H s → RelV x v → Vals xs us → r x xs H Q →
    wpAny (model X.prog X.w) X.A (call (.builtin id) (v :: us)) (EP X pins σ Q) X.xe s
theorem Vals.one : ∀ {x : V} {us : List Value}, Vals [x] us → ∃ u, us = [u] ∧ RelV x u
  | _, _, .cons r .nil => ⟨_, rfl, r⟩
section
variable {X : Cx} {pins : List (Addr × Obj)} {σ : St} {H : Hp} {s : Shared} {l b : Addr} {xs ys zs : List V}
theorem Inv.lset {its its' : List Value} {n : Nat} {f : Array Value → Array Value} {t' : Nat} (I : Inv X pins σ H s) (hH : H l = some (.lst xs))
    (e : s.heap.get? l = some { cls := .type "list", data := .seq its.toArray n }) (hf : f its.toArray = its'.toArray) (hv : Vals ys its') (hz : ys.length ≤ sizeLine) :
    Inv X pins σ (upd H l (.lst ys)) { s with heap := s.heap.update l (Obj.mapSeq f), toks := t' } := by
  have q := PySem.IsL.update e f
  rw [hf] at q
  refine I.write (x := l) (e := l) (by rw [hH]; exact trivial) (.inl rfl) (fun b' u hb hu => (Heap.get?_update_other s.heap (Obj.mapSeq f) (Ne.symm hb)).trans hu) ⟨_, q⟩ ?_
  exact ⟨hz, its', _, hv, q⟩
theorem Inv.lnew {its : List Value} {t' : Nat} (I : Inv X pins σ H s) (hv : Vals ys its) (hz : ys.length ≤ sizeLine) :
    Inv X pins σ (upd H s.heap.objs.size (.lst ys)) { s with heap := s.heap.push { cls := .type "list", data := .seq its.toArray }, toks := t' } :=
  I.laid (fun _ _ q => Heap.get?_push_of_some _ q) (Nat.le_refl _) ⟨hz, its, 0, hv, Heap.get?_push_size _ rfl⟩
theorem Inv.fresh (I : Inv X pins σ H s) : H s.heap.objs.size = none := I.hok.fresh (Nat.le_refl _)
theorem Inv.lstM (I : Inv X pins σ H s) (hH : H l = some (.lst xs)) : xs.length ≤ sizeLine ∧ ∃ (its : List Value) (n : Nat), Vals xs its ∧ xs.length = its.length ∧ s.heap.get? l = some { cls := .type "list", data := .seq its.toArray n } := by
  obtain ⟨z, its, n, r, e⟩ := I.hok l _ hH
  exact ⟨z, its, n, r, r.length, e⟩
end
section
variable {X : Cx}
noncomputable def rAppend : V → List V → Hp → VK → Prop := fun x vs H Q => ∃ l xs y, x = .ref l ∧ vs = [y] ∧ H l = some (.lst xs) ∧ xs.length < sizeLine ∧ Q .non (upd H l (.lst (xs ++ [y])))
theorem mt_append : MtM X "list.append" rAppend := by
  intro pins s σ H x vs v us Q I rx rv h
  obtain ⟨l, xs, y, rfl, rfl, hH, hz, q⟩ := h
  cases rx
  obtain ⟨u, rfl, ru⟩ := rv.one
  obtain ⟨z, its, n, r, hl, e⟩ := I.lstM hH
  refine call_meets F.slot_list_append ⟨_, e, rfl⟩ F.entry_list_append (F.args_list_append_2 _ _) (PySem.list_append l its.toArray n u (by rw [List.size_toArray]; omega)) ⟨e, ?_⟩
  refine ⟨.non, _, I.lset (its' := its ++ [u]) hH e (by simp) (r.append (.cons ru .nil)) ?_, rfl, q⟩
  rw [List.length_append, List.length_singleton]
  omega
end
section
variable {prog : Program} {w : World} {A : Around} {E : Value → Shared → Prop} {s : Shared}
end
section
variable {X : Cx}
end
end L2
namespace Att
open PySem PySem.W PySem.Calls PyProof.Rows
theorem ints_of_wellAll {P : Params} {h : Heap} : ∀ (ns : List Int) (vs : List Value), WellAll P h vs (ns.map WData.int) → IntsAre vs ns := by
  intro ns
  induction ns with
  | nil =>
    intro vs w
    rw [List.map_nil] at w
    cases w
    exact .nil
  | cons n ns ih =>
    intro vs w
    rw [List.map_cons] at w
    cases w with
    | cons a b =>
      cases a
      exact .cons _ _ (ih _ b)
theorem script_of {l : OpenLaw} {n : Nat} (hn : l.most = some n) {P : Params} {h : Heap} {args : List WData} {vals : List Value}
    (hpre : l.row.toRowW.claim.pre args = true) (hwl : WellAll P h vals args) :
    ∃ a vs ns, vals = [Value.ref a] ∧ args = [WData.list (ns.map WData.int)] ∧ h.get? a = some { cls := .type "list", data := .seq vs.toArray } ∧ IntsAre vs ns ∧ ns.length ≤ n := by
  have hsh : WShape.hasAll [] args [.list .int] = true := (pre_splitW hpre).1
  have hc : l.pre.holds [] { args := args } = true := (pre_splitW hpre).2
  obtain ⟨d, r, rfl, h1, h2⟩ := hasAllW_cons hsh
  obtain rfl := hasAllW_nil h2
  obtain ⟨xs, rfl, h3⟩ := hasW_list h1
  obtain ⟨ns, rfl⟩ := items_int h3
  have hlen : ns.length ≤ n := by
    unfold OpenLaw.pre at hc
    have h4 : (WTm.not (.lt (.lit (.int (n : Int))) (.len (.arg 0)))).holds [] { args := [.list (ns.map .int)] } = true := by
      have h4 := (holds_andW hc).1
      rw [hn] at h4
      exact h4
    have h5 := condW_of h4 (w_not (w_lt w_lit (w_len_list (w_arg rfl))))
    rw [List.length_map] at h5
    refine Nat.le_of_not_lt fun q => ?_
    have q' : (n : Int) < ((ns.length : Nat) : Int) := by omega
    first
      | (rw [decide_eq_true q'] at h5; exact absurd h5 (by decide))
      | (simp at h5; omega)
  cases hwl with
  | cons w1 w2 =>
    cases w2
    cases w1 with
    | list ho hall => exact ⟨_, _, ns, rfl, rfl, ho, ints_of_wellAll ns _ hall, hlen⟩
theorem post_true (l : OpenLaw) (args : List WData) : l.row.toRowW.claim.post args (.bool true) args = true :=
  postW_of (r := l.row.toRowW) (X := (true == true))
    (show WShape.has [] (.bool true) .bool = true by first | rfl | decide | simp [WShape.has, WShape.arms, WShape.armsAll])
    (show (WTm.eq .res (.lit (.bool true))).value [] { args := args, res := some (.bool true), after := args } = some (.bool (true == true)) from w_eq_bool (w_res rfl) w_lit) rfl
theorem attach_call {l : OpenLaw} {n : Nat} {q : Program} {loose : List Str} {XP : (Str → Option Value) → Heap → Prop} {YP : World → Heap → Prop} {d : DefRec}
    (hn : l.most = some n) (hdf : d.params.defaults = [])
    (call : ∀ (w : World) (s₀ s₁ : Shared) (mg mb : Str → Option Value) (fa : Addr) (o : Obj) (pm cd doc : Value) (a : Addr) (vs : List Value) (ns : List Int),
      Ground q loose [] XP w s₀ mg mb s₁.heap → YP w s₁.heap →
      s₁.heap.get? fa = some o → o.data = .func (docDef d.name d.params d.body d.scope pm cd doc) → s₁.heap.CodeRec cd d.name → mg d.name = some (.ref fa) →
      s₁.heap.get? a = some { cls := .type "list", data := .seq vs.toArray } → IntsAre vs ns → ns.length ≤ n → s₁.gens = #[] →
      codeAny (model l.prog w) callerA (.call (.ref fa) ⟨[.ref a], []⟩) (fun r s' => r = .ok (.ret (.bool true)) ∧ OldK s₁.heap s'.heap ∧ s'.os = s₁.os ∧ AllBare s'.gens) s₁) :
    WalkO q loose XP YP l.row.toRowW d [] (fun f vs => PySem.call f vs) := by
  intro w s₀ s₁ mg mb G Y fa o pm cd doc dV kV ho hd hcd hD hmg hg args vals as hpre hlay hrd hwl hlo
  obtain rfl : dV = .none := Dflts.none hD hdf
  obtain rfl : kV = .none := Dflts.noKw hD
  obtain ⟨a, vs, ns, rfl, rfl, hobj, hints, hlen⟩ := script_of hn hpre hwl
  refine enter_call (codeAny_mono (call w s₀ s₁ mg mb fa o pm cd doc a vs ns G Y ho (fd_plain hd) hcd hmg hobj hints hlen hg) fun r s' hq => ?_)
  obtain ⟨rfl, h2, h3, h4⟩ := hq
  exact ⟨.inl ⟨.bool true, .bool true, [], rfl, fun _ => rfl, .bool true, post_true l _, fun _ => ⟨List.Pairwise.nil, fun _ hm => (nomatch hm)⟩⟩, h2, h3, h4⟩
section
variable {prog : Program} {w : World} {A : Around} {E : Value → Shared → Prop} {s : Shared} {K : Frag}
end
end Att
namespace L2
open PySem PySem.Spec PyProof.Rows
theorem vals_ints : ∀ {vs : List Value} {ns : List Int}, IntsAre vs ns → Vals (ns.map V.int) vs
  | _, _, .nil => .nil
  | _, _, .cons n t h => .cons ⟨t, rfl⟩ (vals_ints h)
noncomputable def Only (H : Hp) : Prop := ∀ b, H b = none ∨ ∃ o xs, H b = some (.frz o (.lst xs))
theorem law_call {P : Program} {w : World} {K : PySem.W.Frag} {mg mb : Str → Option Value} {CX : CXT} {k : Nat} {fa a : Addr} {fd : FuncData} {x : Str} {sp : Sp} {s₁ : Shared} {vs : List Value} {ns : List Int}
    (KX : K.In s₁.heap) (hns : s₁.heap.Ns mainGlobals mg) (hb : s₁.heap.Ns builtinsNs mb) (hbb : ∀ x : Str, x ≠ "__name__" → mb x = bootBuiltins x) (hlim : s₁.heap.NoLimit) (hg : s₁.gens = #[])
    (ha : s₁.heap.get? a = some { cls := .type "list", data := .seq vs.toArray }) (hi : IntsAre vs ns) (hl : ns.length ≤ sizeLine) (hr : Room k callerA)
    (F : ∀ base : Heap, K.In base → base.Ns mainGlobals mg → FnOk P w K mg base CX k fa fd [x] sp) (hbind : ∀ (s : Shared) (u : Value), BindsTo s fd ⟨[u], []⟩ [(x, u)])
    (hsp : ∀ H : Hp, Only H → SqL K H a (ns.map V.int) → sp [.ref a] H (fun v _ => v = .bl true) fun _ _ _ => False)
    (hCX : ∀ H e s', CX [] H s₁ (fun _ _ _ => False) e s' → False) :
    codeAny (model P w) callerA (.call (.ref fa) ⟨[.ref a], []⟩) (fun r s' => r = .ok (.ret (.bool true)) ∧ OldK s₁.heap s'.heap ∧ s'.os = s₁.os ∧ AllBare s'.gens) s₁ := by
  have rv := vals_ints hi
  have lenV := hi.length
  have core : ∀ H : Hp, Only H → SqL K H a (ns.map V.int) → HOk P w H s₁.heap → (∀ b, H b ≠ none → b = a) → (H a ≠ none → K.lookup a = none) →
      codeAny (model P w) callerA (.call (.ref fa) ⟨[.ref a], []⟩) (fun r s' => r = .ok (.ret (.bool true)) ∧ OldK s₁.heap s'.heap ∧ s'.os = s₁.os ∧ AllBare s'.gens) s₁ := by
    intro H hO hS hok hA hK
    have base_of : ∀ {b : Addr} {o : Obj}, s₁.heap.get? b = some o → H b = none → (hidT s₁.heap H).get? b = some o := fun e n => hidT_get e n
    have noA : ∀ {b : Addr} {o : Obj} {es : Array DictEntry} {ep : Nat}, s₁.heap.get? b = some o → o.data = .dict es ep → H b = none := fun {b o es ep} e d => by
      cases q : H b with
      | none => rfl
      | some u =>
        have e' : b = a := hA b (by rw [q]; simp)
        subst e'
        rw [ha] at e; cases e
        have d' : Data.seq vs.toArray _ = Data.dict es ep := d
        cases d'
    have nsK : ∀ {b : Addr} {m : Str → Option Value}, s₁.heap.Ns b m → (hidT s₁.heap H).Ns b m := fun {b m} ⟨o, es, ep, e, d, r⟩ => ⟨o, es, ep, base_of e (noA e d), d, r⟩
    have hKb : K.In (hidT s₁.heap H) := fun b o e => base_of (KX b o e) (by
      cases q : H b with
      | none => rfl
      | some u =>
        have e' : b = a := hA b (by rw [q]; simp)
        subst e'
        rw [hK (by rw [q]; simp)] at e; cases e)
    have hM : Mod K mg (hidT s₁.heap H) := ⟨hKb, nsK hns, ⟨mb, nsK hb, hbb⟩, let ⟨mc, h1, h2⟩ := hlim; ⟨mc, nsK h1, h2⟩⟩
    have e0 : Env0 P w K mg (hidT s₁.heap H) callerA [] s₁ H := ⟨rfl, hM, fun b o e => of_hidT e, Nat.le_of_eq (hidT_size _ _), trivial, fun b hb => absurd (show b ∈ ([] : List Addr) from hb) (by simp), hok, .of_eq hg⟩
    refine codeAny_mono ((F _ hKb (nsK hns)).run callerA [] s₁ H ⟨[.ref a], []⟩ [.ref a] [.ref a] _ _ hr e0 (hbind s₁ (.ref a)) (.cons rfl .nil) (hsp H hO hS)) fun r s' h => ?_
    cases r with
    | error e => exact (hCX H e s' h).elim
    | ok fl =>
      cases fl with
      | next => exact False.elim h
      | brk => exact False.elim h
      | cont => exact False.elim h
      | ret u =>
        obtain ⟨v, H', os, bare, un, hok', r', q⟩ := h
        have q' : v = .bl true := q
        subst q'
        obtain rfl : u = Value.bool true := r'
        refine ⟨rfl, OldK.of_keep fun b o e => ?_, os, bare⟩
        cases q : H b with
        | none => exact un.keep b o e q (by intro z; exact absurd (show b ∈ ([] : List Addr) from z) (by simp)) (by simp)
        | some u =>
          rcases hO b with z | ⟨ob, xs, z⟩
          · rw [q] at z; cases z
          · have z2 := un.frzs b ob _ z
            obtain ⟨e1, _⟩ := hok b _ z
            obtain ⟨e2, _⟩ := hok' b _ z2
            rw [e] at e1; cases e1
            exact e2
  cases hk : K.lookup a with
  | some o =>
    have e := KX a o hk
    rw [ha] at e
    cases e
    refine core (fun _ => none) (fun _ => .inl rfl) (.inr ⟨_, vs.toArray, _, hk, rfl, rfl, rfl, by rw [List.size_toArray, lenV]; exact hl, by simpa using rv⟩) (fun b u z => by have z' : (none : Option HO) = some u := z; cases z') (fun b z => absurd rfl z) fun z => absurd rfl z
  | none =>
    refine core (fun b => if b = a then some (.frz { cls := .type "list", data := .seq vs.toArray } (.lst (ns.map V.int))) else none) (fun b => ?_) (.inl (.inr ⟨{ cls := .type "list", data := .seq vs.toArray }, if_pos rfl⟩)) (fun b u z => ?_) (fun b z => ?_) fun _ => hk
    · by_cases hb : b = a
      · exact .inr ⟨_, _, if_pos hb⟩
      · exact .inl (if_neg hb)
    · by_cases hb : b = a
      · have z' := (if_pos hb).symm.trans z
        cases z'
        subst hb
        exact ⟨ha, by rw [List.length_map]; exact hl, vs, _, rv, ha⟩
      · have z' := (if_neg hb).symm.trans z
        cases z'
    · by_cases hb : b = a
      · exact hb
      · exact absurd (if_neg hb) z
end L2
namespace L2
open PySem PySem.Spec PyProof.Rows
theorem walk_of {l : PySem.W.OpenLaw} {n k : Nat} {q : Program} {loose : List Str} {XP : (Str → Option Value) → Heap → Prop} {YP : World → Heap → Prop} {d : DefRec} {K : Params → PySem.W.Frag} {CX : World → CXT} {sp : World → Sp} {x : Str}
    (hn : l.most = some n) (hn2 : n ≤ sizeLine) (hdf : d.params.defaults = []) (hr : Room k callerA)
    (hY : ∀ (w : World) (h : Heap), YP w h → (K w.params).In h)
    (F : ∀ (w : World) (mg : Str → Option Value) (fa : Addr) (h : Heap), (K w.params).In h → h.Ns mainGlobals mg → mg d.name = some (.ref fa) →
      ∃ fd : FuncData, (∀ (s : Shared) (u : Value), BindsTo s fd ⟨[u], []⟩ [(x, u)]) ∧
        ∀ base : Heap, (K w.params).In base → base.Ns mainGlobals mg → FnOk l.prog w (K w.params) mg base (CX w) k fa fd [x] (sp w))
    (hsp : ∀ (w : World) (H : Hp) (a : Addr) (ns : List Int), ns.length ≤ n → Only H → SqL (K w.params) H a (ns.map V.int) → sp w [.ref a] H (fun v _ => v = .bl true) fun _ _ _ => False)
    (hCX : ∀ (w : World) (H : Hp) (s : Shared) (e : Value) (s' : Shared), CX w [] H s (fun _ _ _ => False) e s' → False) :
    PySem.W.WalkO q loose XP YP l.row.toRowW d [] (fun f vs => PySem.call f vs) := by
  refine Att.attach_call hn hdf fun w s₀ s₁ mg mb fa o pm cd doc a vs ns G Y ho hd hcd hmg hobj hints hlen hg => ?_
  have KX := hY w _ Y
  obtain ⟨fd, hb, hF⟩ := F w mg fa _ KX G.T.g hmg
  exact law_call KX G.T.g G.T.b G.T.builtins G.T.nolimit hg hobj hints (Nat.le_trans hlen hn2) hr hF hb (fun H hO hS => hsp w H a ns hlen hO hS) fun H e s' => hCX w H s₁ e s'
end L2
namespace L2
open PySem PySem.Spec PyProof.Rows
noncomputable def defArgs (s : Stmt) : Arguments := match s with
  | .FunctionDef _ a _ _ _ _ _ _ _ _ => a
  | _ => { posonlyargs := [], args := [], vararg := none, kwonlyargs := [], kw_defaults := [], kwarg := none, defaults := [] }
noncomputable def defBody (s : Stmt) : List Stmt := match s with
  | .FunctionDef _ _ b _ _ _ _ _ _ _ => b
  | _ => []
noncomputable def defScope (s : Stmt) : Scope := match s with
  | .FunctionDef _ _ _ _ _ _ sc _ _ _ => sc
  | _ => { kind := .function, names := [], isGenerator := false, isCoroutine := false }
noncomputable abbrev CX0 : CXT := fun _ _ _ _ _ _ => False
noncomputable abbrev E0 : XK := fun _ _ _ => False
theorem pass0 {X : Cx} : Passes CX0 X E0 := fun _ _ _ _ _ _ _ h => h.elim
structure Fun (K : PySem.W.Frag) (x qual : Str) (st : Stmt) (f : Addr) (fd : FuncData) : Prop where
  ex : ∃ (oc : Value) (od : Option Addr) (kV doc pm : Value) (an : Option Addr) (cdv ct : Value) (osl : Array (Option Value)),
    fd = PySem.W.fnOf x qual (defArgs st) (defBody st) (defScope st) .none kV doc pm an cdv ct ∧ K.lookup f = some ⟨oc, od, .func fd, osl⟩ ∧ PySem.W.codeIn K cdv qual = true
  kp : PySem.W.keepIn K (.ref f) = true
section
variable {P : Program} {w : World} {K : PySem.W.Frag} {mg : Str → Option Value} {base : Heap}
theorem Fun.ok {x qual : Str} {st : Stmt} {f : Addr} {fd : FuncData} {N ps : List Str} {k : Nat} {sp : Sp} (F : Fun K x qual st f fd) (S : FnScope N ps (defScope st)) (len : ∀ vs H Q E, sp vs H Q E → vs.length = ps.length)
    (hbody : ∀ (cdv : Value) (A : Around) (outer : List Env) (s : Shared) (H : Hp) (vs : List V) (Q : VK) (E : XK), Room k (A.deeper (envOfC qual (defScope st) s.heap.objs.size f cdv)) → sp vs H Q E →
      ∃ t, PSs (cxOf CX0 P w K mg base N qual (defScope st) f cdv A outer s H E).nox (defBody st) t ∧ t { nx := fun _ H' => Q .non H', rt := Q } (start N vs) H) : FnOk P w K mg base CX0 (k + 1) f fd ps sp := by
  obtain ⟨oc, od, kV, doc, pm, an, cdv, ct, osl, rfl, lk, hcd⟩ := F.ex
  refine fn_of lk hcd S len fun A outer s H vs Q E hr hsp => ?_
  obtain ⟨t, h, q⟩ := hbody cdv A outer s H vs Q E hr hsp
  exact ⟨t, h.nox, q⟩
theorem Fun.binds {x qual : Str} {st : Stmt} {f : Addr} {fd : FuncData} {ps : List Str} (F : Fun K x qual st f fd)
    (h : ∀ (kV doc pm : Value) (an : Option Addr) (cdv ct : Value) (us : List Value), us.length = ps.length → bindArgs (PySem.W.fnOf x qual (defArgs st) (defBody st) (defScope st) .none kV doc pm an cdv ct) ⟨us, []⟩ = pure (ps.zip us)) : Binds K fd ps [] := by
  obtain ⟨oc, od, kV, doc, pm, an, cdv, ct, osl, rfl, lk, hcd⟩ := F.ex
  exact .all (h kV doc pm an cdv ct)
theorem fun_mk {x qual : Str} {st : Stmt} {f : Addr} {oc : Value} {od an : Option Addr} {osl : Array (Option Value)} {kV doc pm cdv ct : Value} (l : K.lookup f = some ⟨oc, od, .func (PySem.W.fnOf x qual (defArgs st) (defBody st) (defScope st) .none kV doc pm an cdv ct), osl⟩)
    (c : PySem.W.codeIn K cdv qual = true) (k : PySem.W.keepIn K (.ref f) = true) : Fun K x qual st f (PySem.W.fnOf x qual (defArgs st) (defBody st) (defScope st) .none kV doc pm an cdv ct) := ⟨⟨oc, od, kV, doc, pm, an, cdv, ct, osl, rfl, l, c⟩, k⟩
end
section
variable {X : Cx}
theorem pv (i : Nat) {x : Str} {pos : Pos} (hN : X.N[i]? = some x := by rfl) (hv : Vis X.env.scope x := by first | exact Or.inl rfl | exact Or.inr (Or.inl rfl) | exact Or.inr (Or.inr rfl)) (hd : (x == ("__debug__" : Str)) = false := by decide)
    (hcd : (x == ("__classdict__" : Str)) = false := by decide) : PE X (.Name x pos) (tVar i) := pe_var hN hv hd hcd
end
theorem iteF {A B : Prop} (h : B) : if false = true then A else B := by
  rw [if_neg Bool.false_ne_true]
  exact h
theorem iteT {A B : Prop} (h : A) : if true = true then A else B := by
  rw [if_pos rfl]
  exact h
noncomputable def Same (H H' : Hp) : Prop := ∀ b o, H b = some o → H' b = some o
theorem Same.refl (H : Hp) : Same H H := fun _ _ h => h
theorem Same.trans {H H1 H2 : Hp} (a : Same H H1) (b : Same H1 H2) : Same H H2 := fun c o h => b c o (a c o h)
theorem Same.free {H H' : Hp} (e : Same H H') {l : Addr} (h : H' l = Option.none) : H l = Option.none := by
  cases q : H l with
  | none => rfl
  | some o =>
    rw [e l o q] at h
    cases h
theorem Same.seq {K : PySem.W.Frag} {H H' : Hp} {a : Addr} {xs : List V} (e : Same H H') (h : SqL K H a xs) : SqL K H' a xs := by
  rcases h with (h | ⟨o, h⟩) | h
  · exact .inl (.inl (e _ _ h))
  · exact .inl (.inr ⟨o, e _ _ h⟩)
  · exact .inr h
end L2
namespace L2
open PySem PySem.Spec PyProof.Rows
section
variable {κ : Type} [DecidableEq κ]
noncomputable def valV (kvs : List (κ × V)) (k : κ) : Option V := (kvs.find? fun kv => decide (kv.1 = k)).map (·.2)
noncomputable def putK (kvs : List (κ × V)) (k : κ) (v : V) : List (κ × V) :=
  if (kvs.any fun kv => decide (kv.1 = k)) = true then kvs.map (fun kv => if kv.1 = k then (kv.1, v) else kv) else kvs ++ [(k, v)]
theorem valV_pos {p : κ × V} {r : List (κ × V)} {k : κ} (e : p.1 = k) : valV (p :: r) k = some p.2 := by simp [valV, List.find?_cons, e]
theorem valV_neg {p : κ × V} {r : List (κ × V)} {k : κ} (e : ¬ p.1 = k) : valV (p :: r) k = valV r k := by simp [valV, List.find?_cons, e]
theorem valV_any (k : κ) : ∀ kvs : List (κ × V), (kvs.any fun kv => decide (kv.1 = k)) = (valV kvs k).isSome
  | [] => rfl
  | p :: r => by
    rw [List.any_cons]
    by_cases e : p.1 = k
    · simp only [valV_pos e, decide_eq_true e, Bool.true_or, Option.isSome_some]
    · rw [valV_neg e, decide_eq_false e, Bool.false_or]; exact valV_any k r
theorem length_putK (kvs : List (κ × V)) (k : κ) (v : V) : (putK kvs k v).length ≤ kvs.length + 1 := by
  unfold putK
  split
  · rw [List.length_map]; omega
  · rw [List.length_append, List.length_cons, List.length_nil]; omega
theorem putK_new {kvs : List (κ × V)} {k : κ} (v : V) (h : valV kvs k = none) : putK kvs k v = kvs ++ [(k, v)] := by
  unfold putK
  rw [valV_any, h]
  exact if_neg (by decide)
theorem RelO.isSome_eq {o : Option V} {u : Option Value} (r : RelO o u) : o.isSome = u.isSome := by
  cases o with
  | none => cases u with
    | none => rfl
    | some _ => exact (show False from r).elim
  | some _ => cases u with
    | none => exact (show False from r).elim
    | some _ => rfl
theorem KV.val {kvs : List (κ × V)} {vs : List (κ × Value)} (r : KV kvs vs) (k : κ) : RelO (valV kvs k) (valueAt vs k) := by
  unfold KV at r
  induction r with
  | nil => exact True.intro
  | @cons p q ps qs h t ih =>
    obtain ⟨h1, h2⟩ := h
    by_cases e : p.1 = k
    · have e' : q.1 = k := h1.symm.trans e
      have b : valueAt (q :: qs) k = some q.2 := by simp [valueAt, List.find?_cons, e']
      rw [valV_pos e, b]; exact h2
    · have e' : ¬ q.1 = k := fun z => e (h1.trans z)
      have b : valueAt (q :: qs) k = valueAt qs k := by simp [valueAt, List.find?_cons, e']
      rw [valV_neg e, b]; exact ih
theorem KV.any {kvs : List (κ × V)} {vs : List (κ × Value)} (r : KV kvs vs) (k : κ) : (kvs.any fun kv => decide (kv.1 = k)) = vs.any fun kv => decide (kv.1 = k) := by
  unfold KV at r
  induction r with
  | nil => rfl
  | cons h t ih => rw [List.any_cons, List.any_cons, ih, h.1]
theorem KV.repl {kvs : List (κ × V)} {vs : List (κ × Value)} (r : KV kvs vs) (k : κ) {y : V} {u : Value} (ry : RelV y u) :
    KV (kvs.map fun kv => if kv.1 = k then (kv.1, y) else kv) (vs.map fun kv => if kv.1 = k then (kv.1, u) else kv) := by
  unfold KV at r ⊢
  induction r with
  | nil => exact .nil
  | @cons p q ps qs h t ih =>
    rw [List.map_cons, List.map_cons]
    refine .cons ?_ ih
    obtain ⟨h1, h2⟩ := h
    by_cases e : p.1 = k
    · rw [if_pos e, if_pos (h1.symm.trans e)]; exact ⟨h1, ry⟩
    · rw [if_neg e, if_neg (fun z => e (h1.trans z))]; exact ⟨h1, h2⟩
theorem KV.put {kvs : List (κ × V)} {vs : List (κ × Value)} (r : KV kvs vs) (k : κ) {y : V} {u : Value} (ry : RelV y u) : KV (putK kvs k y) (stored vs k u) := by
  unfold putK stored
  rw [r.any k]
  by_cases e : (vs.any fun kv => decide (kv.1 = k)) = true
  · rw [if_pos e, if_pos e]; exact r.repl k ry
  · rw [if_neg e, if_neg e]; exact Paired.snoc r ⟨rfl, ry⟩
theorem KV.length {kvs : List (κ × V)} {vs : List (κ × Value)} (r : KV kvs vs) : kvs.length = vs.length := Paired.length r
end
theorem kV_is {P : Program} {w : World} {k : Key} {u : Value} (r : RelV (kV k) u) : (mixKind P w).is k u = true := by
  cases k with
  | inl i => obtain ⟨t, e⟩ := (show ∃ t, u = Value.int i t from r); subst e; exact mixKind_int P w i t
  | inr x => obtain ⟨t, e⟩ := (show ∃ t, u = Value.str x t from r); subst e; exact mixKind_str P w x t
theorem items_are {P : Program} {w : World} : ∀ {ks : List Key} {us : List Value}, Vals (ks.map kV) us → ItemsAre (mixKind P w) ks us
  | [], _, r => by rw [List.map_nil] at r; cases r; exact .nil
  | k :: ks, _, r => by
    rw [List.map_cons] at r
    cases r with
    | cons h t => exact .cons (kV_is h) (items_are t)
noncomputable abbrev KT (H : Hp) : List (List Key × V) → List (List Key × Addr × Value) → Prop := Paired fun p q => p.1 = q.1 ∧ H q.2.1 = some (.tup (p.1.map kV)) ∧ RelV p.2 q.2.2
theorem KT.val {H : Hp} {kvs : List (List Key × V)} {xs : List (List Key × Addr × Value)} (r : KT H kvs xs) (k : List Key) : RelO (valV kvs k) ((atKey xs k).map (·.2)) := by
  induction r with
  | nil => exact True.intro
  | @cons p q ps qs h t ih =>
    obtain ⟨h1, _, h2⟩ := h
    by_cases e : p.1 = k
    · have e' : q.1 = k := h1.symm.trans e
      have b : atKey (q :: qs) k = some q.2 := by simp [atKey, List.find?_cons, e']
      rw [valV_pos e, b]; exact h2
    · have e' : ¬ q.1 = k := fun z => e (h1.trans z)
      have b : atKey (q :: qs) k = atKey qs k := by simp [atKey, List.find?_cons, e']
      rw [valV_neg e, b]; exact ih
theorem KT.repl {H : Hp} {kvs : List (List Key × V)} {xs : List (List Key × Addr × Value)} (r : KT H kvs xs) (k : List Key) {y : V} {u : Value} (ry : RelV y u) :
    KT H (kvs.map fun kv => if kv.1 = k then (kv.1, y) else kv) (xs.map (putAt k u)) := by
  induction r with
  | nil => exact .nil
  | @cons p q ps qs h t ih =>
    rw [List.map_cons, List.map_cons]
    refine .cons ?_ ih
    obtain ⟨h1, h2, h3⟩ := h
    unfold putAt
    by_cases e : p.1 = k
    · rw [if_pos e, if_pos (h1.symm.trans e)]; exact ⟨h1, h2, ry⟩
    · rw [if_neg e, if_neg (fun z => e (h1.trans z))]; exact ⟨h1, h2, h3⟩
theorem KT.put {H : Hp} {kvs : List (List Key × V)} {xs : List (List Key × Addr × Value)} (r : KT H kvs xs) (k : List Key) {b : Addr} {y : V} {u : Value} (hb : H b = some (.tup (k.map kV))) (ry : RelV y u) :
    KT H (putK kvs k y) (storedH xs k b u) := by
  have e : (kvs.any fun kv => decide (kv.1 = k)) = (atKey xs k).isSome := by
    rw [valV_any, (r.val k).isSome_eq, Option.isSome_map]
  unfold putK storedH
  rw [e]
  by_cases q : (atKey xs k).isSome = true
  · rw [if_pos q, if_pos q]; exact r.repl k ry
  · rw [if_neg q, if_neg q]; exact Paired.snoc r ⟨rfl, hb, ry⟩
theorem KT.keeps {H H' : Hp} {kvs : List (List Key × V)} {xs : List (List Key × Addr × Value)} (r : KT H kvs xs) (ht : ∀ b ys, H b = some (.tup ys) → H' b = some (.tup ys)) : KT H' kvs xs :=
  Paired.mapP r fun _ _ z => ⟨z.1, ht _ _ z.2.1, z.2.2⟩
section
variable {P : Program} {w : World} {H : Hp} {h : Heap} {a : Addr}
theorem rd_of {u : HO} (ok : HOk P w H h) (e : Rd H a u) : ObjOk P w H h a u := e.ok ok
theorem dk_rd {kvs : List (Key × V)} (ok : HOk P w H h) (e : Rd H a (.dK kvs)) : kvs.length ≤ sizeLine ∧ (a == sysModules) = false ∧ ∃ vs, KV kvs vs ∧ h.DictOf (mixKind P w) a vs :=
  show ObjOk P w H h a (.dK kvs) from rd_of ok e
theorem dk_of {kvs : List (Key × V)} (ok : HOk P w H h) (e : H a = some (.dK kvs)) : kvs.length ≤ sizeLine ∧ (a == sysModules) = false ∧ ∃ vs, KV kvs vs ∧ h.DictOf (mixKind P w) a vs := dk_rd ok (.inl e)
theorem key_of {ks : List Key} (ok : HOk P w H h) (e : H a = some (.tup (ks.map kV))) : (tupleKind (mixKind P w)).is h ks a := by
  obtain ⟨_, its, r, o, h1, h2, n, h3⟩ := (show ObjOk P w H h a (.tup (ks.map kV)) from ok a _ e)
  exact ⟨o, its.toArray, n, h1, h2, h3, by simpa using items_are r⟩
theorem dt_rd {kvs : List (List Key × V)} (ok : HOk P w H h) (e : Rd H a (.dT kvs)) : kvs.length ≤ sizeLine ∧ (a == sysModules) = false ∧
    ∃ xs, KT H kvs xs ∧ h.DictOfH (tupleKind (mixKind P w)) a xs := by
  obtain ⟨z, y, xs, r, o, es, ep, h1, h2, h3, h4, h5⟩ := (show ObjOk P w H h a (.dT kvs) from rd_of ok e)
  refine ⟨z, y, xs, r, o, es, ep, h1, h2, h3, h4, fun x hx => ?_, h5⟩
  have all : ∀ {l : List (List Key × V)} {m : List (List Key × Addr × Value)}, KT H l m → ∀ x ∈ m, (tupleKind (mixKind P w)).is h x.1 x.2.1 := by
    intro l m q
    induction q with
    | nil => intro x hx; exact nomatch hx
    | @cons p q ps qs hq t ih =>
      intro x hx
      rcases List.mem_cons.mp hx with e | hx
      · subst e
        exact key_of ok (by rw [← hq.1]; exact hq.2.1)
      · exact ih x hx
  exact all r x hx
theorem dt_of {kvs : List (List Key × V)} (ok : HOk P w H h) (e : H a = some (.dT kvs)) : kvs.length ≤ sizeLine ∧ (a == sysModules) = false ∧
    ∃ xs, KT H kvs xs ∧ h.DictOfH (tupleKind (mixKind P w)) a xs := dt_rd ok (.inl e)
end
noncomputable def DGet (H : Hp) (a : Addr) (y : V) (r : Option V) : Prop :=
  (∃ kvs k, Rd H a (.dK kvs) ∧ y = kV k ∧ r = valV kvs k) ∨ ∃ kvs k b, Rd H a (.dT kvs) ∧ y = .ref b ∧ H b = some (.tup (k.map kV)) ∧ r = valV kvs k
noncomputable def DPut (H : Hp) (a : Addr) (y v : V) (H' : Hp) : Prop :=
  (∃ kvs k, H a = some (.dK kvs) ∧ y = kV k ∧ kvs.length < sizeLine ∧ H' = upd H a (.dK (putK kvs k v))) ∨
  ∃ kvs k b, H a = some (.dT kvs) ∧ y = .ref b ∧ H b = some (.tup (k.map kV)) ∧ kvs.length < sizeLine ∧ H' = upd H a (.dT (putK kvs k v))
theorem DGet.k {H : Hp} {a : Addr} {kvs : List (Key × V)} {k : Key} (e : H a = some (.dK kvs)) : DGet H a (kV k) (valV kvs k) := .inl ⟨kvs, k, .inl e, rfl, rfl⟩
theorem DPut.k {H : Hp} {a : Addr} {kvs : List (Key × V)} {k : Key} {v : V} (e : H a = some (.dK kvs)) (hl : kvs.length < sizeLine) : DPut H a (kV k) v (upd H a (.dK (putK kvs k v))) := .inl ⟨kvs, k, e, rfl, hl, rfl⟩
section
variable {X : Cx} {pins : List (Addr × Obj)} {σ : St} {H : Hp} {s : Shared} {a : Addr} {y v : V} {u r : Value} {o : Option V} {A : Around} {E : Value → Shared → Prop}
theorem Inv.big (I : Inv X pins σ H s) : sysModules < s.heap.objs.size := by
  have h : mainGlobals < s.heap.objs.size := (I.mod.glob.keeps I.bk).lt
  exact Nat.lt_trans (by decide) h
theorem d_notIn {Q : Value → Shared → Prop} (hu : A.units + 1 < cLine) (I : Inv X pins σ H s) (g : DGet H a y o) (ry : RelV y u) (h : ∀ s', Inv X pins σ H s' → Q (.bool (!o.isSome)) s') :
    wpAny (model X.prog X.w) A (compareOp .NotIn u (.ref a)) Q E s := by
  rcases g with ⟨kvs, k, e, ey, l⟩ | ⟨kvs, k, b, e, ey, eb, l⟩
  · subst ey
    obtain ⟨z, hd, vs, rel, dd⟩ := dk_rd I.hok e
    refine wpAny_notIn_of (kV_is ry) hd dd.mapOf ?_
    rw [← (rel.val k).isSome_eq, ← l]
    exact h _ (I.tok _)
  · subst ey
    cases (show u = Value.ref b from ry)
    obtain ⟨z, hd, xs, rel, dd⟩ := dt_rd I.hok e
    refine wpAny_notIn_heap (tupleKind_room_in1 hu) (key_of I.hok eb) hd dd ?_
    have q := (rel.val k).isSome_eq
    rw [Option.isSome_map] at q
    rw [← q, ← l]
    exact h _ (I.tok _)
theorem d_write {h' : Heap} {t' : Nat} {ob : HO} (I : Inv X pins σ H s) (mu : Mut (H a)) (hs : Heap.SameBut a s.heap h') (he : ∃ q, h'.get? a = some q) (new : ObjOk X.prog X.w (upd H a ob) h' a ob) :
    Inv X pins σ (upd H a ob) { s with heap := h', toks := t' } :=
  I.write (x := a) (e := a) mu (.inl rfl) (fun b q hb z => (hs.2 b hb).trans z) he new
theorem dk_new {P : Program} {w : World} {H' : Hp} {h' : Heap} {kvs : List (Key × V)} {vs : List (Key × Value)} (z : kvs.length ≤ sizeLine) (hd : (a == sysModules) = false) (rel : KV kvs vs) (dd : h'.DictOf (mixKind P w) a vs) :
    ObjOk P w H' h' a (.dK kvs) := ⟨z, hd, vs, rel, dd⟩
theorem d_setItem {H' : Hp} {Q : Unit → Shared → Prop} (hu : A.units + 1 < cLine) (I : Inv X pins σ H s) (g : DPut H a y v H') (ry : RelV y u) (rv : RelV v r) (h : ∀ s', Inv X pins σ H' s' → Q () s') :
    wpAny (model X.prog X.w) A (setItem (.ref a) u r) Q E s := by
  rcases g with ⟨kvs, k, e, ey, l, eH⟩ | ⟨kvs, k, b, e, ey, eb, l, eH⟩
  · subst ey eH
    obtain ⟨z, hd, vs, rel, dd⟩ := dk_of I.hok e
    have hz : vs.length ≤ sizeLine := by rw [← rel.length]; exact z
    have hl : (putK kvs k v).length ≤ sizeLine := by have := length_putK kvs k v; omega
    refine wpAny_setItem_pairs (hsz := hz) (kV_is ry) dd fun h' dd' hs => h _ ?_
    have he : ∃ q, h'.get? a = some q := let ⟨q, _, _, hq, _⟩ := dd'; ⟨q, hq⟩
    exact d_write I (by rw [e]; exact True.intro) hs he (dk_new hl hd (rel.put k rv) dd')
  · subst ey eH
    cases (show u = Value.ref b from ry)
    obtain ⟨z, hd, xs, rel, dd⟩ := dt_of I.hok e
    have hz : xs.length ≤ sizeLine := by rw [← Paired.length rel]; exact z
    have hl : (putK kvs k v).length ≤ sizeLine := by have := length_putK kvs k v; omega
    refine wpAny_setItem_heap (hsz := hz) (tupleKind_room_in1 hu) (key_of I.hok eb) dd fun h' dd' hs => h _ ?_
    obtain ⟨q, es, ep, hq, h2, h3, h4, _, h5⟩ := dd'
    refine d_write I (by rw [e]; exact True.intro) hs ⟨q, hq⟩ ⟨hl, hd, _, (rel.put k eb rv).keeps fun c ys ec => ?_, q, es, ep, hq, h2, h3, h4, h5⟩
    rw [upd_ne (ne_of ec e (fun z => nomatch z))]
    exact ec
end
section
variable {X : Cx} {pins : List (Addr × Obj)} {σ : St} {H : Hp} {s : Shared} {a : Addr} {kvs : List (Key × V)} {k : Key} {u : Value} {A : Around} {E : Value → Shared → Prop}
theorem d_len {Q : Value → Shared → Prop} (I : Inv X pins σ H s) (e : Rd H a (.dK kvs)) (h : ∀ t s', Inv X pins σ H s' → Q (.int kvs.length t) s') : wpAny (model X.prog X.w) A (call (.builtin "len") [.ref a]) Q E s := by
  obtain ⟨z, hd, vs, rel, dd⟩ := dk_rd I.hok e
  refine call_len_dict hd dd (by rw [← rel.length]; rw [sizeLine_eq] at z; omega) ?_
  rw [← rel.length]
  exact h _ _ (I.tok _)
end
noncomputable def tDNotIn (ty td : TE) : TE := fun σ H Q => ty σ H fun y H1 => td σ H1 fun x H2 => ∃ a o, x = .ref a ∧ DGet H2 a y o ∧ Q (.bl (!o.isSome)) H2
noncomputable def sDPut (td ty tv : TE) : TS := fun D σ H => tv σ H fun v H1 => td σ H1 fun x H2 => ty σ H2 fun y H3 => ∃ a H4, x = .ref a ∧ DPut H3 a y v H4 ∧ D.nx σ H4
section
variable {X : Cx} {o i e value : Expr} {pos pos' tpos : Pos} {td ty tv : TE}
theorem pc_dnotin (hu : X.A.units + 1 < cLine) (hi : PE X i ty) (ho : PE X o td) : PC X .NotIn i o (tDNotIn ty td) := by
  intro pins s σ H Q I h
  refine thn (hi pins s σ H _ I h) fun iv s1 ⟨y, H1, I1, ry, q1⟩ => thn (ho pins s1 σ H1 _ I1 q1) fun u s2 ⟨x, H2, I2, rx, a, ov, ex, g, q2⟩ => ?_
  subst ex
  obtain rfl : u = Value.ref a := rx
  exact d_notIn hu I2 g ry fun s3 I3 => ⟨.bl (!ov.isSome), H2, I3, rfl, q2⟩
theorem ps_dput (hu : X.A.units + 1 < cLine) (ho : PE X o td) (hi : PE X i ty) (hv : PE X value tv) (hs : swapsWith value (some (.Subscript o i pos')) pos.line X.env = pure false) :
    PS X (.Assign [.Subscript o i pos'] value pos) (sDPut td ty tv) := by
  intro pins s σ H D I h
  refine wpAny_Assign_Subscript (thn (hv pins s σ H _ I h) fun r s1 ⟨v, H1, I1, rv, q1⟩ => thn (ho pins s1 σ H1 _ I1 q1) fun u s2 ⟨x, H2, I2, rx, q2⟩ => thn (hi pins s2 σ H2 _ I2 q2) fun iv s3 ⟨y, H3, I3, ry, a, H4, ex, g, q3⟩ => ?_) hs
  subst ex
  obtain rfl : u = Value.ref a := rx
  exact d_setItem hu I3 g ry rv fun s4 I4 => ⟨σ, H4, I4, q3⟩
end
theorem dk_empty {P : Program} {w : World} {H : Hp} (h : Heap) (hb : sysModules < h.objs.size) : ObjOk P w H (h.push { cls := .type "dict", data := .dict #[] }) h.objs.size (.dK []) :=
  ⟨Nat.zero_le _, beq_eq_false_iff_ne.mpr (Ne.symm (Nat.ne_of_lt hb)), [], .nil, Heap.DictOf.new h⟩
section
variable {X : Cx} {pos : Pos}
end
noncomputable def tPairs : List (TE × TE) → St → Hp → (List (V × V) → Hp → Prop) → Prop
  | [], _, H, Q => Q [] H
  | (tk, tv) :: r, σ, H, Q => tk σ H fun x H1 => tv σ H1 fun y H2 => tPairs r σ H2 fun ps H3 => Q ((x, y) :: ps) H3
noncomputable abbrev VV : List (V × V) → List (Value × Value) → Prop := Paired fun p q => RelV p.1 q.1 ∧ RelV p.2 q.2
noncomputable def PPs (X : Cx) (pos : Pos) (keys : List (Option Expr)) (values : List Expr) (trs : List (TE × TE)) : Prop :=
  ∀ (pins : List (Addr × Obj)) (s : Shared) (σ : St) (H : Hp) (Q : List (V × V) → Hp → Prop), Inv X pins σ H s → tPairs trs σ H Q →
    wpAny (model X.prog X.w) X.A (evalPairs (pairTrees keys values X.env pos)) (fun vs s' => ∃ ps H', Inv X pins σ H' s' ∧ VV ps vs ∧ Q ps H') X.xe s
theorem pps_nil {X : Cx} {pos : Pos} : PPs X pos [] [] [] := fun pins s σ H Q I h => pairTrees_nil_walk ⟨[], H, I, .nil, h⟩
theorem pps_cons {X : Cx} {pos : Pos} {k v : Expr} {ks : List (Option Expr)} {vs : List Expr} {tk tv : TE} {trs : List (TE × TE)} (hk : PE X k tk) (hv : PE X v tv) (hr : PPs X pos ks vs trs) :
    PPs X pos (some k :: ks) (v :: vs) ((tk, tv) :: trs) := fun pins s σ H Q I h =>
  pairTrees_cons_walk (thn (hk pins s σ H _ I h) fun u s1 ⟨x, H1, I1, rx, q1⟩ => thn (hv pins s1 σ H1 _ I1 q1) fun w2 s2 ⟨y, H2, I2, ry, q2⟩ =>
    thn (hr pins s2 σ H2 _ I2 q2) fun ws s3 ⟨ps, H3, I3, rel, q3⟩ => ⟨(x, y) :: ps, H3, I3, .cons ⟨rx, ry⟩ rel, q3⟩)
noncomputable def mergeK (kvs more : List (Key × V)) : List (Key × V) := more.foldl (fun acc kv => putK acc kv.1 kv.2) kvs
theorem KV.merge : ∀ {more : List (Key × V)} {rs : List (Key × Value)} {kvs : List (Key × V)} {vs : List (Key × Value)}, KV more rs → KV kvs vs → KV (mergeK kvs more) (merged vs rs) := by
  intro more rs kvs vs r
  unfold KV at r
  induction r generalizing kvs vs with
  | nil => intro q; exact q
  | @cons p q ps qs h t ih =>
    intro r0
    have e : KV (putK kvs p.1 p.2) (stored vs q.1 q.2) := by
      have := r0.put p.1 h.2
      rw [← h.1]; exact this
    exact ih e
theorem length_mergeK : ∀ (more kvs : List (Key × V)), (mergeK kvs more).length ≤ kvs.length + more.length
  | [], kvs => by show kvs.length ≤ kvs.length + 0; omega
  | p :: r, kvs => by
    have h1 := length_mergeK r (putK kvs p.1 p.2)
    have h2 := length_putK kvs p.1 p.2
    show (mergeK (putK kvs p.1 p.2) r).length ≤ _
    rw [List.length_cons]; omega
theorem carries_of {P : Program} {w : World} : ∀ {kvs : List (Key × V)} {ws : List (Value × Value)}, VV (kvs.map fun kv => (kV kv.1, kv.2)) ws → ∃ rs, Carries (mixKind P w) ws rs ∧ KV kvs rs
  | [], _, r => by rw [List.map_nil] at r; cases r; exact ⟨[], True.intro, .nil⟩
  | p :: kvs, _, r => by
    rw [List.map_cons] at r
    cases r with
    | @cons a b as bs h t =>
      obtain ⟨rs, c, q⟩ := carries_of (P := P) (w := w) t
      obtain ⟨b1, b2⟩ := b
      exact ⟨(p.1, b2) :: rs, ⟨kV_is h.1, rfl, c⟩, .cons ⟨rfl, h.2⟩ q⟩
noncomputable def tDisp (trs : List (TE × TE)) : TE := fun σ H Q => ∀ p, H p = none → tPairs trs σ (upd H p (.dK [])) fun ps H2 => H2 p = some (.dK []) ∧ ∃ kvs : List (Key × V), ps = kvs.map (fun kv => (kV kv.1, kv.2)) ∧ kvs.length ≤ 15 ∧ Q (.ref p) (upd H2 p (.dK (mergeK [] kvs)))
theorem pe_disp {X : Cx} {pos : Pos} {keys : List (Option Expr)} {values : List Expr} {trs : List (TE × TE)} (h : PPs X pos keys values trs) (hall : keys.all (·.isSome) = true) (hl : keys.length = values.length) (h0 : keys ≠ [])
    (h15 : keys.length ≤ 15) : PE X (.Dict keys values pos) (tDisp trs) := by
  intro pins s σ H Q I q
  have hn := I.hok.fresh (Nat.le_refl s.heap.objs.size)
  have I1 := I.laid (a := s.heap.objs.size) (o := .dK []) (h' := s.heap.push { cls := .type "dict", data := .dict #[] }) (t' := s.toks) (fun _ _ q => Heap.get?_push_of_some _ q) (Nat.le_refl _) (dk_empty s.heap I.big)
  refine wpAny_Dict_walk (knd := mixKind X.prog X.w) hall hl h0 h15 (thn (h pins _ σ _ _ I1 (q _ hn)) fun ws s2 ⟨ps, H2, I2, rel, e, kvs, ep, lk, q2⟩ => ?_)
  subst ep
  obtain ⟨rs, c, rk⟩ := carries_of (P := X.prog) (w := X.w) rel
  obtain ⟨z, hd, vs0, r0, dd⟩ := dk_of I2.hok e
  cases r0
  refine ⟨rs, c, dd, fun h' dd' hs => ⟨.ref s.heap.objs.size, _, ?_, rfl, q2⟩⟩
  have hz : (mergeK [] kvs).length ≤ sizeLine := by
    have h1 := length_mergeK kvs []
    rw [List.length_nil] at h1
    rw [sizeLine_eq]; omega
  have he : ∃ q, h'.get? s.heap.objs.size = some q := let ⟨q, _, _, hq, _⟩ := dd'; ⟨q, hq⟩
  exact d_write I2 (by rw [e]; exact True.intro) hs he (dk_new hz hd (rk.merge .nil) dd')
structure M1 (X : Cx) (o : Expr) (m : Str) (apos : Pos) (e : Expr) (cpos : Pos) : Prop where
  base : attributeBase o m X.env (eval o X.env) = eval o X.env
  few : ((backTo cpos (starEach [e] X.env)).all (fun x => !x.1) && (backToKw cpos (keywordEach [] X.env)).all (fun x => x.1.isSome)
    && decide (([e] : List Expr).length + ([] : List Keyword).length + (if ([] : List Keyword).isEmpty then 0 else 1) < 30)) = true
  line : (apos.endLine == cpos.line) = true
  trees : backTo cpos (starEach [e] X.env) = [(false, eval e X.env)]
structure M2 (X : Cx) (o : Expr) (m : Str) (apos : Pos) (e f : Expr) (cpos : Pos) : Prop where
  base : attributeBase o m X.env (eval o X.env) = eval o X.env
  few : ((backTo cpos (starEach [e, f] X.env)).all (fun x => !x.1) && (backToKw cpos (keywordEach [] X.env)).all (fun x => x.1.isSome)
    && decide (([e, f] : List Expr).length + ([] : List Keyword).length + (if ([] : List Keyword).isEmpty then 0 else 1) < 30)) = true
  line : (apos.endLine == cpos.line) = true
  trees : backTo cpos (starEach [e, f] X.env) = [(false, eval e X.env), (false, eval f X.env)]
section
variable {X : Cx} {pins : List (Addr × Obj)} {σ : St} {H : Hp} {s : Shared} {a : Addr} {y d : V} {u r : Value} {o : Option V} {A : Around} {E : Value → Shared → Prop}
end
section
variable {X : Cx} {o e f : Expr} {apos cpos : Pos} {td ty tx : TE}
end
section
variable {X : Cx} {pins : List (Addr × Obj)} {σ : St} {H : Hp} {s : Shared} {a : Addr} {kvs : List (Key × V)} {A : Around} {E : Value → Shared → Prop}
end
section
variable {X : Cx} {pins : List (Addr × Obj)} {σ : St} {H : Hp} {s : Shared} {a : Addr} {y : V} {u : Value} {A : Around} {E : Value → Shared → Prop}
end
end L2
namespace L2
open PySem PySem.Spec PyProof.Rows
section
variable {P : Program} {w : World} {K : PySem.W.Frag} {mg : Str → Option Value} {base : Heap}
end
section
variable {X : Cx}
theorem call_lenD : CallR X (.builtin "len") (fun xs H Q => ∃ a kvs, xs = [V.ref a] ∧ H a = some (.dK kvs) ∧ Q (.int kvs.length) H) := by
  intro pins s σ H xs us Q I r h
  obtain ⟨a, kvs, rfl, ha, q⟩ := h
  obtain ⟨u, rfl, ru⟩ := vals1 r
  cases ru
  exact d_len I (.inl ha) fun t s' I' => ⟨.int kvs.length, H, I', ⟨t, rfl⟩, q⟩
end
section
variable {κ : Type} [DecidableEq κ]
end
end L2
namespace L2
open PySem PySem.Spec PyProof.Rows
noncomputable def closOf (cells : List (Str × Addr)) : List (Str × NameKind) → List (Str × Addr) → List (Str × Addr)
  | [], acc => acc
  | (n, k) :: r, acc => closOf cells r (if k = .free then (match cells.lookup n with | some a => (n, a) :: acc | none => acc) else acc)
theorem closureFor_go {env : Env} : ∀ (names : List (Str × NameKind)) (acc : List (Str × Addr)), (∀ y ∈ names, y.2 = .free → ∃ c, env.cells.lookup y.1 = some c) →
    (forIn names acc fun (x : Str × NameKind) (r : List (Str × Addr)) =>
      (if (x.2 == NameKind.free) = true then (do let a ← cellOf env x.1; pure (ForInStep.yield ((x.1, a) :: r))) else pure (ForInStep.yield r) : Sem (ForInStep (List (Str × Addr))))) = (pure (closOf env.cells names acc) : Sem (List (Str × Addr)))
  | [], acc, _ => rfl
  | (n, k) :: rest, acc, h => by
    rw [List.forIn_cons]
    have ih := fun acc' => closureFor_go (env := env) rest acc' fun y hy => h y (List.mem_cons_of_mem _ hy)
    by_cases hk : k = .free
    · subst hk
      obtain ⟨c, hc⟩ := h (n, .free) List.mem_cons_self rfl
      have hc : env.cells.lookup n = some c := hc
      have e : cellOf env n = pure c := by unfold cellOf; rw [hc]
      simp only [beq_self_eq_true, if_true, e, pure_bind, closOf, hc]
      exact ih _
    · have hb : (k == NameKind.free) = false := by simpa using hk
      simp only [hb, Bool.false_eq_true, if_false, pure_bind, closOf, if_neg hk]
      exact ih _
theorem closureFor_eq {env : Env} {scope : Scope} (h : ∀ y ∈ scope.names, y.2 = .free → ∃ c, env.cells.lookup y.1 = some c) : closureFor scope env = pure (closOf env.cells scope.names []) := by
  have e := closureFor_go (env := env) scope.names [] h
  unfold closureFor
  simp only [bind_pure_comp, bind_pure, map_pure] at *
  exact e
theorem closOf_sub {cells : List (Str × Addr)} : ∀ (names : List (Str × NameKind)) (acc : List (Str × Addr)), (∀ x c, acc.lookup x = some c → cells.lookup x = some c) → ∀ x c, (closOf cells names acc).lookup x = some c → cells.lookup x = some c
  | [], acc, h, x, c, e => h x c e
  | (n, k) :: r, acc, h, x, c, e => by
    refine closOf_sub r _ ?_ x c e
    intro y d q
    split at q
    · split at q
      · rename_i a ha
        rw [List.lookup_cons] at q
        split at q
        · rename_i hy
          cases q
          rw [eq_of_beq hy]
          exact ha
        · exact h y d q
      · exact h y d q
    · exact h y d q
theorem closOf_has {cells : List (Str × Addr)} : ∀ (names : List (Str × NameKind)) (acc : List (Str × Addr)) (x : Str), (((x, NameKind.free) ∈ names ∧ ∃ c, cells.lookup x = some c) ∨ ∃ c, acc.lookup x = some c) → ∃ c, (closOf cells names acc).lookup x = some c
  | [], acc, x, h => by
    rcases h with ⟨h, _⟩ | h
    · cases h
    · exact h
  | (n, k) :: r, acc, x, h => by
    refine closOf_has r _ x ?_
    have up : (∃ c, acc.lookup x = some c) → ∃ c, (if k = .free then (match cells.lookup n with | some a => (n, a) :: acc | none => acc) else acc).lookup x = some c := by
      rintro ⟨c, hc⟩
      split
      · split
        · rename_i a ha
          rw [List.lookup_cons]
          split
          · exact ⟨_, rfl⟩
          · exact ⟨c, hc⟩
        · exact ⟨c, hc⟩
      · exact ⟨c, hc⟩
    rcases h with ⟨h, c, hc⟩ | h
    · rcases List.mem_cons.mp h with e | e
      · cases e
        right
        refine ⟨c, ?_⟩
        rw [if_pos rfl, hc, List.lookup_cons, beq_self_eq_true]
      · exact .inl ⟨e, c, hc⟩
    · exact .inr (up h)
theorem lookup_rel (env : Env) (x : Str) : ∀ names : List (Str × NameKind),
    (names.map fun (n, k) => if (k == NameKind.free && env.scope.kind == .function && env.kindOf n == some .cell) then (n, NameKind.cell) else (n, k)).lookup x =
      (names.lookup x).map fun k => if (k == NameKind.free && env.scope.kind == .function && env.kindOf x == some .cell) = true then NameKind.cell else k
  | [] => rfl
  | (n, k) :: r => by
    have ih := lookup_rel env x r
    show List.lookup x ((if (k == NameKind.free && env.scope.kind == .function && env.kindOf n == some .cell) = true then (n, NameKind.cell) else (n, k)) :: _) = _
    cases hx : x == n with
    | true =>
      have e : x = n := eq_of_beq hx
      subst e
      by_cases hc : (k == NameKind.free && env.scope.kind == .function && env.kindOf x == some .cell) = true
      · rw [if_pos hc, List.lookup_cons, List.lookup_cons, beq_self_eq_true]
        simp only [Option.map_some, if_pos hc]
      · rw [if_neg hc, List.lookup_cons, List.lookup_cons, beq_self_eq_true]
        simp only [Option.map_some, if_neg hc]
    | false =>
      have e : (List.lookup x ((n, k) :: r)) = List.lookup x r := by rw [List.lookup_cons, hx]
      rw [e, ← ih]
      split <;> rw [List.lookup_cons, hx]
structure BlkScope (X : Cx) (scope : Scope) (own : List Str) (fr : List (Str × Nat)) : Prop where
  kind : scope.kind = .function
  nocell : ∀ y ∈ scope.names, y.2 ≠ .cell
  loc : ∀ y ∈ scope.names, y.2 = .local → scope.names.lookup y.1 = some .local
  free : ∀ y ∈ scope.names, y.2 = .free → (X.env.scope.names.lookup y.1 = some .cell ∨ X.env.scope.names.lookup y.1 = some .free)
  fr : ∀ p ∈ fr, X.N[p.2]? = some p.1 ∧ (p.1, NameKind.free) ∈ scope.names
  only : ∀ x, (x, NameKind.free) ∈ scope.names → scope.names.lookup x = some .free
noncomputable def blkCx (X : Cx) (scope : Scope) (own : List Str) (fr : List (Str × Nat)) (C : Addr) (ex : List Addr) (s : Shared) (H : Hp) : Cx where
  prog := X.prog
  w := X.w
  K := X.K
  mg := X.mg
  base := X.base
  A := X.A
  N := own ++ fr.map (·.1)
  s₀ := s
  H₀ := H
  env := compEnvC scope (closOf X.env.cells scope.names []) C X.env
  outer := X.stack
  stack := X.stack
  ex := ex
  fn := fun _ => false
  calm := X.calm
  pn := []
  xe := fun _ _ => False
noncomputable def blkSt (own : List Str) (fr : List (Str × Nat)) (σ : St) : St := own.map (fun _ => none) ++ fr.map (fun p => (σ[p.2]?).getD none)
section
variable {X : Cx} {pins : List (Addr × Obj)} {σ : St} {H : Hp} {s : Shared} {scope : Scope} {own : List Str} {fr : List (Str × Nat)} {fp : List Addr}
theorem BlkScope.cells (S : BlkScope X scope own fr) (ok : X.Ok) : ∀ y ∈ scope.names, y.2 = .free → ∃ c, X.env.cells.lookup y.1 = some c := fun y hy e => ok.has y.1 (S.free y hy e)
theorem Inv.block {h' : Heap} {t' : Nat} {m : Str → Option Value} (I : Inv X pins σ H s) (S : BlkScope X scope own fr) (hf : ∀ b ∈ fp, FpOk X pins H b) (hlt : ∀ b ∈ fp, b < s.heap.objs.size)
    (hns : h'.Ns s.heap.objs.size m) (k : ∀ b o, s.heap.get? b = some o → h'.get? b = some o) :
    Inv (blkCx X scope own fr s.heap.objs.size fp s H) [] (blkSt own fr σ) H { s with heap := h', toks := t' } := by
  have cs : ∀ x c, (closOf X.env.cells scope.names []).lookup x = some c → X.env.cells.lookup x = some c := closOf_sub _ _ (fun _ _ e => by simp at e)
  have ck : ∀ c v, s.heap.IsCell c v → h'.IsCell c v := fun c v ⟨o, ho, hd⟩ => ⟨o, k _ _ ho, hd⟩
  have kf : ∀ x, (x, NameKind.free) ∈ scope.names → ∃ c, X.env.cells.lookup x = some c ∧ (closOf X.env.cells scope.names []).lookup x = some c := fun x hx => by
    obtain ⟨c0, e0⟩ := S.cells I.ok (x, .free) hx rfl
    obtain ⟨c, e⟩ := closOf_has (cells := X.env.cells) scope.names [] x (.inl ⟨hx, c0, e0⟩)
    exact ⟨c, cs _ _ e, e⟩
  have rel : ∀ x, (compEnvC scope (closOf X.env.cells scope.names []) s.heap.objs.size X.env).kindOf x = (scope.names.lookup x).map fun k => if (k == NameKind.free && X.env.scope.kind == .function && X.env.kindOf x == some .cell) = true then NameKind.cell else k := fun x => lookup_rel X.env x scope.names
  have nc : ∀ x, scope.names.lookup x ≠ some .cell := fun x e => S.nocell _ (PySem.mem_of_lookup e) rfl
  refine ⟨⟨I.ok.mod, S.kind, I.ok.glob, I.ok.blt, Nat.le_refl _, fun x y c e1 e2 => I.ok.inj x y c (cs _ _ e1) (cs _ _ e2), fun x hx => ?_, fun x c e _ => (nomatch e), I.ok.hd, I.ok.frames, .inl rfl,
    fun b hb => ⟨Nat.ne_of_lt (hlt b hb), fun x c e => (hf b hb).2.2.2.2.1 x c (cs _ _ e)⟩, I.bs, Nat.le_trans I.ok.bsz I.sz, fun b o e hb => ?_, fun b hb z => (List.mem_cons.mp (I.stkSub b z)).elim (hf b hb).2.1 (hf b hb).2.2.1, I.stack, I.stkFree⟩,
    rfl, I.bare, Un.kept k, ⟨m, hns, fun i x v e1 e2 e3 => ?_⟩, fun x c e => ?_, I.hok.fresh (Nat.le_refl _), fun x c e => I.freeC x c (cs _ _ e), fun p hp => absurd (show p ∈ ([] : List (Addr × Obj)) from hp) (by simp), I.hok.kept k, ?_⟩
  · have hx : (compEnvC scope (closOf X.env.cells scope.names []) s.heap.objs.size X.env).kindOf x = some .cell ∨ (compEnvC scope (closOf X.env.cells scope.names []) s.heap.objs.size X.env).kindOf x = some .free := hx
    rw [rel x] at hx
    have q : scope.names.lookup x = some .free := by
      cases e : scope.names.lookup x with
      | none => rw [e] at hx; simp at hx
      | some kk =>
        rw [e] at hx
        simp only [Option.map_some, Option.some.injEq] at hx
        by_cases hk : kk = .free
        · rw [hk]
        · have hb : (kk == NameKind.free) = false := by simpa using hk
          simp only [hb, Bool.false_and, Bool.false_eq_true, if_false] at hx
          rcases hx with hx | hx
          · rw [hx] at e; exact absurd e (nc x)
          · exact absurd hx hk
    obtain ⟨c, _, e⟩ := kf x (PySem.mem_of_lookup q)
    exact ⟨c, e⟩
  · rcases (hf b hb).2.2.2.1 with z | z
    · exact I.ok.noex b o e z
    · exact absurd (Nat.lt_of_lt_of_le (Heap.lt_size (I.ok.bs b o e).1) z) (Nat.lt_irrefl _)
  · have e1 : (own ++ fr.map (·.1))[i]? = some x := e1
    have e2 : (blkSt own fr σ)[i]? = some (some v) := e2
    unfold blkSt at e2
    by_cases hi : i < own.length
    · rw [List.getElem?_append_left (by simpa using hi), List.getElem?_map] at e2
      rw [List.getElem?_eq_getElem hi] at e2
      simp at e2
    · rw [List.getElem?_append_right (by simpa using hi), List.getElem?_map, List.length_map] at e2
      rw [List.getElem?_append_right (by omega), List.getElem?_map] at e1
      cases ep : fr[i - own.length]? with
      | none => rw [ep] at e1; simp at e1
      | some p =>
        rw [ep] at e1 e2
        simp only [Option.map_some, Option.some.injEq] at e1 e2
        subst e1
        obtain ⟨h1, h2⟩ := S.fr p (List.mem_of_getElem? ep)
        have e4 : σ[p.2]? = some (some v) := by
          cases q : σ[p.2]? with
          | none => rw [q] at e2; simp at e2
          | some z => rw [q] at e2; simp at e2; rw [e2]
        have kx := S.free _ h2 rfl
        obtain ⟨m0, hn0, hl0⟩ := I.loc
        obtain ⟨u, r, l⟩ := hl0 p.2 p.1 v h1 e4 (kx.elim (fun z => .inr (.inl z)) fun z => .inr (.inr z))
        refine ⟨u, r, ?_⟩
        rcases l with ⟨z, _⟩ | ⟨_, c, hc, hcell⟩
        · have z : X.env.scope.names.lookup p.1 = some .local := z
          rcases kx with y | y <;> (rw [y] at z; cases z)
        · obtain ⟨c', q1, q2⟩ := kf p.1 h2
          rw [hc] at q1
          cases q1
          refine .inr ⟨?_, c, q2, ck _ _ hcell⟩
          show (compEnvC scope (closOf X.env.cells scope.names []) s.heap.objs.size X.env).kindOf p.1 = some .cell ∨ (compEnvC scope (closOf X.env.cells scope.names []) s.heap.objs.size X.env).kindOf p.1 = some .free
          have e3 : (compEnvC scope (closOf X.env.cells scope.names []) s.heap.objs.size X.env).kindOf p.1 = some .local ∨ (compEnvC scope (closOf X.env.cells scope.names []) s.heap.objs.size X.env).kindOf p.1 = some .cell ∨ (compEnvC scope (closOf X.env.cells scope.names []) s.heap.objs.size X.env).kindOf p.1 = some .free := e3
          rcases e3 with e3 | e3
          · exfalso
            rw [rel] at e3
            cases e : scope.names.lookup p.1 with
            | none => rw [e] at e3; cases e3
            | some kk =>
              rw [e] at e3
              simp only [Option.map_some, Option.some.injEq] at e3
              by_cases hk : kk = .free
              · subst hk; split at e3 <;> cases e3
              · have hb : (kk == NameKind.free) = false := by simpa using hk
                simp only [hb, Bool.false_and, Bool.false_eq_true, if_false] at e3
                subst e3
                have := S.only p.1 h2
                rw [this] at e
                cases e
          · exact e3
  · obtain ⟨v, z⟩ := I.cell x c (cs _ _ e)
    exact ⟨v, ck _ _ z⟩
  · unfold blkSt
    show _ = (own ++ fr.map (·.1)).length
    simp
end
end L2
namespace L2
open PySem PySem.Spec PyProof.Rows
theorem compLoop_go {prog : Program} {w : World} {A : Around} {R : Result → Shared → Prop} {s : Shared} {elt target iter : Expr} {ifs : List Expr} {scope : Scope} {pos : Pos} {it acc : Value} {env : Env} (I : Nat → Shared → Prop)
    (turn : ∀ n s, I n s → wpAny (model prog w) A (pyNext it) (fun r s₁ => match r with
      | none => R (.ok .next) s₁
      | some v => wpAny (model prog w) A (letOwnedTupleGo target it v) (fun _ s₁' => wpAny (model prog w) A (assign target env v) (fun _ s₂ =>
          wpAny (model prog w) A (forIn ifs true fun c r => if r = true then do let ok ← isTrue c env (eval c env); pure (ForInStep.yield ok) else pure (ForInStep.yield r)) (fun ok s₃ =>
            if ok = true then wpAny (model prog w) A (eval elt env) (fun x s₄ =>
              wpAny (model prog w) A (call (.builtin "list.append") [acc, x]) (fun _ s₅ => ∃ m, m < n ∧ I m s₅) (fun _ _ => False) s₄) (fun _ _ => False) s₃
            else ∃ m, m < n ∧ I m s₃) (fun _ _ => False) s₂) (fun _ _ => False) s₁') (fun _ _ => False) s₁) (fun _ _ => False) s)
    (n : Nat) (h : I n s) : codeAny (model prog w) A (.compLoop (.ListComp elt [⟨target, iter, ifs, 0⟩] scope pos) 0 it acc env) R s := by
  refine codeAny_loop rfl I (fun n s hI => ?_) n h
  show wpAny _ A ((compTurn (.ListComp elt [⟨target, iter, ifs, 0⟩] scope pos) 0 it acc env).onRaise (fun x => do noteFrame x env; theTreesLotGoes x)) _ _ s
  refine wpAny_noted ?_
  rw [compTurn_list]
  refine wpAny_bind (wpAny_standAt (wpAny_bind (wpAny_mono (turn n s hI) (fun r s₁ h₁ => ?_) fun _ _ f => f.elim)))
  cases r with
  | none => exact wpAny_pure h₁
  | some v =>
    refine wpAny_bind (wpAny_mono h₁ (fun _ s₁' h₁' => wpAny_bind (wpAny_mono h₁' (fun _ s₂ h₂ => wpAny_bind (wpAny_mono h₂ (fun ok s₃ h₃ => ?_) fun _ _ f => f.elim)) fun _ _ f => f.elim)) fun _ _ f => f.elim)
    cases ok with
    | false => exact wpAny_pure ⟨rfl, h₃⟩
    | true =>
      exact wpAny_bind (wpAny_bind (wpAny_mono h₃ (fun x s₄ h₄ => wpAny_bind (wpAny_mono h₄ (fun _ s₅ h₅ => wpAny_pure (wpAny_pure ⟨rfl, h₅⟩)) fun _ _ f => f.elim)) fun _ _ f => f.elim))
section
variable {X : Cx}
noncomputable def PTs (X : Cx) (ifs : List Expr) (tc : TT) : Prop :=
  ∀ (pins : List (Addr × Obj)) (s : Shared) (σ : St) (H : Hp) (Q : Bool → Hp → Prop), Inv X pins σ H s → tc σ H Q →
    wpAny (model X.prog X.w) X.A (forIn ifs true fun c r => if r = true then do let ok ← isTrue c X.env (eval c X.env); pure (ForInStep.yield ok) else pure (ForInStep.yield r)) (TP X pins σ Q) X.xe s
noncomputable def tYes : TT := fun _ H Q => Q true H
theorem pts_nil : PTs X [] tYes := fun _ _ _ H _ I h => wpAny_tests_nil ⟨H, I, h⟩
theorem pts_one {c : Expr} {tc : TT} (h : PT X c tc) : PTs X [c] tc := fun pins s σ H Q I q => wpAny_tests_one (h pins s σ H Q I q)
noncomputable def Kp (σ0 σ : St) : Prop := σ.length = σ0.length ∧ ∀ (i : Nat) (v : V), σ0[i]? = some (some v) → σ[i]? = some (some v)
theorem Kp.refl (σ : St) : Kp σ σ := ⟨rfl, fun _ _ h => h⟩
theorem Kp.set {σ0 σ : St} {i : Nat} {v : V} (k : Kp σ0 σ) (h : σ0[i]? = some none) : Kp σ0 (σ.set i (some v)) := by
  refine ⟨by rw [List.length_set]; exact k.1, fun j u e => ?_⟩
  by_cases hj : i = j
  · subst hj; rw [h] at e; cases e
  · rw [List.getElem?_set_ne hj]; exact k.2 j u e
noncomputable def CompW (J : It) (σ0 : St) (g : TG) (tc : TT) (te : TE) (Q : VK) (H1 : Hp) (D : Addr) : Prop :=
  ∃ W : Nat → Nat → List V → Hp → Prop, (∃ m, W 0 m [] (upd H1 D (.lst []))) ∧ ∀ i m ys H, W i m ys H →
    (J.stop i H ∧ Q (.ref D) H) ∨ (J.go i H ∧ ∃ N : List V → Hp → Prop, (∀ ys' H', N ys' H' → ∃ m', m' < m ∧ W (i + 1) m' ys' H') ∧ ∀ x H', J.yld i H x H' → g x σ0 H' fun σ2 H2 => Kp σ0 σ2 ∧ tc σ2 H2 fun b H3 =>
      if b = true then te σ2 H3 fun y H4 => H4 D = some (.lst ys) ∧ ys.length < sizeLine ∧ N (ys ++ [y]) (upd H4 D (.lst (ys ++ [y]))) else N ys H3)
noncomputable def tComp (wi : TI) (own : List Str) (fr : List (Str × Nat)) (g : TG) (tc : TT) (te : TE) : TE := fun σ H Q => wi σ H fun J H1 => ∀ D, H1 D = none → CompW J (blkSt own fr σ) g tc te Q H1 D
theorem comp_run {elt tg iter : Expr} {ifs : List Expr} {scope : Scope} {pos : Pos} {own : List Str} {fr : List (Str × Nat)} {g : TG} {tc : TT} {te : TE} (hc : X.calm = true) (S : BlkScope X scope own fr)
    (hg : ∀ C ex s H, PG (blkCx X scope own fr C ex s H) tg g) (ht : ∀ C ex s H, PTs (blkCx X scope own fr C ex s H) ifs tc) (he : ∀ C ex s H, PE (blkCx X scope own fr C ex s H) elt te)
    {pins : List (Addr × Obj)} {σ : St} {H : Hp} {s : Shared} {it : Addr} {fp : List Addr} {tn : Nat → Heap → Prop} {J : It} {E : Value → Shared → Prop}
    (I : Inv X pins σ H s) (T : Turn X.prog X.w X.K tg J fp it tn) (st : tn 0 s.heap) (hf : ∀ b ∈ fp, FpOk X pins H b) {Q : VK}
    (h : ∀ D, H D = none → CompW J (blkSt own fr σ) g tc te Q H D)
    {RR : Value → Addr → Result → Shared → Prop}
    (hR : ∀ D C H' s', Inv X pins σ H' s' → (∃ m, s'.heap.Ns C m) → FpOk X pins H' C → Q (.ref D) H' → RR (.ref D) C (.ok .next) s') :
    wpAny (model X.prog X.w) X.A (newList []) (fun acc s₃ => wpAny (model X.prog X.w) X.A (newFunctionEnv scope X.env.globals (closOf X.env.cells scope.names []) [] X.env.qual none .none (some X.env)) (fun cenv s₄ =>
      codeAny (model X.prog X.w) X.A (.compStart (.ListComp elt [⟨tg, iter, ifs, 0⟩] scope pos) 0 (.ref it) acc { cenv with scope := relabel scope X.env }) (RR acc cenv.locals) s₄) E s₃) E s := by
  have hDn : H s.heap.objs.size = none := I.fresh
  obtain ⟨W, ⟨m0, w0⟩, turn⟩ := h s.heap.objs.size hDn
  have I3 : Inv X pins σ (upd H s.heap.objs.size (.lst [])) { s with heap := s.heap.push { cls := .type "list", data := .seq ([] : List Value).toArray }, toks := s.toks } := I.lnew .nil (Nat.zero_le _)
  refine wpAny_newObj_type ?_
  generalize hs3 : ({ s with heap := s.heap.push { cls := .type "list", data := .seq ([] : List Value).toArray } } : Shared) = s3 at I3 ⊢
  have I3 : Inv X pins σ (upd H s.heap.objs.size (.lst [])) s3 := I3
  have old3 : ∀ b o, s.heap.get? b = some o → s3.heap.get? b = some o := fun b o e => by rw [← hs3]; exact Heap.get?_push_of_some _ e
  have hobj : ∀ b ∈ fp, ∃ o, s.heap.get? b = some o ∧ ∀ v, o.data ≠ .cell v := T.obj 0 _ st
  have hne : ∀ b ∈ fp, b ≠ s.heap.objs.size := fun b hb => by obtain ⟨o, e, _⟩ := hobj b hb; exact Nat.ne_of_lt (Heap.lt_size e)
  have hf3 : ∀ b ∈ fp, FpOk X pins (upd H s.heap.objs.size (.lst [])) b := fun b hb => ⟨by rw [upd_ne (hne b hb)]; exact (hf b hb).1, (hf b hb).2⟩
  have hlt3 : ∀ b ∈ fp, b < s3.heap.objs.size := fun b hb => by obtain ⟨o, e, _⟩ := hobj b hb; exact Heap.lt_size (old3 b o e)
  refine wpAny_newFunctionEnv S.nocell (by intro y hy; simp at hy) (fun h₁ hns hsb => ?_) S.kind
  have keep : ∀ b o, s3.heap.get? b = some o → h₁.get? b = some o := fun b o e => hsb.extBut b o (Nat.ne_of_lt (Heap.lt_size e)) (Heap.get?_push_of_some _ e)
  have J0 := I3.block (t' := s3.toks + ([] : List (Str × Value)).length) S hf3 hlt3 hns keep
  have st3 : tn 0 h₁ := T.keep 0 _ _ st fun b hb o e => keep b o (old3 b o e)
  have loop : codeAny (model X.prog X.w) X.A (.compLoop (.ListComp elt [⟨tg, iter, ifs, 0⟩] scope pos) 0 (.ref it) (.ref s.heap.objs.size) (compEnvC scope (closOf X.env.cells scope.names []) s3.heap.objs.size X.env))
      (RR (.ref s.heap.objs.size) s3.heap.objs.size) { s3 with heap := h₁, toks := s3.toks + ([] : List (Str × Value)).length } := by
    have stat : ∀ {H' : Hp}, (∀ b ∈ fp, H' b = none) → ∀ b ∈ fp, FpOk (blkCx X scope own fr s3.heap.objs.size fp s3 (upd H s.heap.objs.size (.lst []))) [] H' b := fun {H'} hn b hb =>
      ⟨hn b hb, Nat.ne_of_lt (hlt3 b hb), J0.ok.exfs b hb, .inl hb, (J0.ok.exf b hb).2, fun p hp => absurd (show p ∈ ([] : List (Addr × Obj)) from hp) (by simp)⟩
    refine compLoop_go (fun n s' => ∃ i ys H', Inv (blkCx X scope own fr s3.heap.objs.size fp s3 (upd H s.heap.objs.size (.lst []))) [] (blkSt own fr σ) H' s' ∧ tn i s'.heap ∧ (∀ b ∈ fp, H' b = none) ∧ W i n ys H') ?_ m0
      ⟨0, [], _, J0, st3, fun b hb => (hf3 b hb).1, w0⟩
    rintro n s4 ⟨i, ys, H4, I4, st4, fr4, w4⟩
    rcases turn i n ys H4 w4 with ⟨stop, q⟩ | ⟨go, N, hN, step⟩
    · refine thn (T.done (blkCx X scope own fr s3.heap.objs.size fp s3 (upd H s.heap.objs.size (.lst []))) rfl rfl rfl hc i [] s4 _ H4 (fun _ _ => False) I4 (stat fr4) st4 stop) fun r s5 ⟨hr, I5⟩ => ?_
      subst hr
      obtain ⟨m, hn, _⟩ := id I5.loc
      exact hR _ _ H4 s5 (I3.call' I5.os I5.base I5.hok I5.bare fun b hb => ⟨(hf3 b hb).2.2.2.1, (hf3 b hb).2.1, (hf3 b hb).2.2.2.2.1, (hf3 b hb).2.2.2.2.2⟩) ⟨m, hn⟩ (I3.fpOk (Nat.le_refl _) I5.free) q
    · refine thn (T.item (blkCx X scope own fr s3.heap.objs.size fp s3 (upd H s.heap.objs.size (.lst []))) rfl rfl rfl hc i [] s4 _ H4 (fun _ _ => False) I4 (stat fr4) st4 go) fun r s5 ⟨u, hr, h5⟩ => ?_
      subst hr
      refine thn h5 fun _ s6 ⟨x, H6, I6, r6, y6, st6, fr6⟩ => ?_
      have I6' := I6.pinned (stat fr6) (T.obj _ _ st6)
      refine thn (hg _ _ _ _ _ s6 _ H6 x u _ I6' r6 (step x H6 y6)) fun _ s7 ⟨σ7, H7, I7, kp, q7⟩ => ?_
      refine thn (ht _ _ _ _ _ s7 σ7 H7 _ I7 q7) fun b s8 ⟨H8, I8, q8⟩ => ?_
      have again : ∀ {s9 : Shared} {H9 : Hp} {ys' : List V}, Inv (blkCx X scope own fr s3.heap.objs.size fp s3 (upd H s.heap.objs.size (.lst []))) ([] ++ pinsAt fp s6.heap) σ7 H9 s9 → N ys' H9 →
          ∃ m, m < n ∧ ∃ i ys H', Inv (blkCx X scope own fr s3.heap.objs.size fp s3 (upd H s.heap.objs.size (.lst []))) [] (blkSt own fr σ) H' s9 ∧ tn i s9.heap ∧ (∀ b ∈ fp, H' b = none) ∧ W i m ys H' := fun {s9 H9 ys'} I9 n9 => by
        obtain ⟨m', hm, w9⟩ := hN ys' H9 n9
        refine ⟨m', hm, i + 1, ys', H9, I9.unpinned.weak kp.1.symm kp.2, T.keep _ _ _ st6 fun b hb o e => (I9.pin (b, o) (List.mem_append_right _ (List.mem_append_right _ (mem_pinsAt hb e)))).1, fun b hb => ?_, w9⟩
        obtain ⟨o, e, d⟩ := T.obj _ _ st6 b hb
        exact (I9.pin (b, o) (List.mem_append_right _ (List.mem_append_right _ (mem_pinsAt hb e)))).2.1
      cases b with
      | false =>
        rw [if_neg Bool.false_ne_true] at q8 ⊢
        exact again I8 q8
      | true =>
        rw [if_pos rfl] at q8 ⊢
        refine thn (he _ _ _ _ _ s8 σ7 H8 _ I8 q8) fun xv s9 ⟨y, H9, I9, r9, hD, hl, n9⟩ => ?_
        refine thn (mt_append _ s9 σ7 H9 (.ref s.heap.objs.size) [y] (.ref s.heap.objs.size) [xv] (fun _ H' => H' = upd H9 s.heap.objs.size (.lst (ys ++ [y]))) I9 rfl (.cons r9 .nil) ⟨_, ys, y, rfl, rfl, hD, hl, rfl⟩) fun _ s10 ⟨_, H10, I10, _, q10⟩ => ?_
        subst q10
        exact again I10 n9
  exact codeAny_compStart_list loop (T.self _ 0 _ _ _ st3 loop)
theorem pe_comp {elt tg iter : Expr} {ifs : List Expr} {scope : Scope} {pos : Pos} {own : List Str} {fr : List (Str × Nat)} {wi : TI} {g : TG} {tc : TT} {te : TE} (hc : X.calm = true) (S : BlkScope X scope own fr) (hi : PI X tg iter wi)
    (hg : ∀ C ex s H, PG (blkCx X scope own fr C ex s H) tg g) (ht : ∀ C ex s H, PTs (blkCx X scope own fr C ex s H) ifs tc) (he : ∀ C ex s H, PE (blkCx X scope own fr C ex s H) elt te)
    (hs : ∀ x, foldedSetIterable iter X.env x = pure x := by intro _; rfl) : PE X (.ListComp elt [⟨tg, iter, ifs, 0⟩] scope pos) (tComp wi own fr g tc te) := by
  intro pins s σ H Q I h
  rw [eval_ListComp]
  refine wpAny_comprehension_free (use := none) rfl hs (closureFor_eq (S.cells I.ok)) S.kind S.loc (thn (hi pins s σ H _ I h) fun xv s₁ h₁ => thn h₁ fun itv s₂ h₂ => ?_)
  obtain ⟨it, fp, tn, J, H2, rfl, I2, T, st2, f2, h2⟩ := h₂
  refine comp_run (RR := fun acc C => compPost (model X.prog X.w) X.A X.xe none (EP X pins σ Q) acc C) hc S hg ht he I2 T st2 f2 h2 ?_
  rintro D C H' s' I' ⟨m, hn⟩ f q
  exact ⟨m, hn, fun h' sb => ⟨.ref D, H', I'.turned (t' := s'.toks) (it := C) (fun b o hb e => (sb.2 b hb).trans e) f.1 f.2.1 f.2.2.2.1 f.2.2.2.2.1 f.2.2.2.2.2, rfl, q⟩⟩
theorem ps_comp {i : Nat} {x : Str} {px spos : Pos} {elt tg iter : Expr} {ifs : List Expr} {scope : Scope} {pos : Pos} {own : List Str} {fr : List (Str × Nat)} {wi : TI} {g : TG} {tc : TT} {te : TE} (hN : X.N.Nodup) (hix : X.N[i]? = some x) (hx : Loc X.env.scope x)
    (hc : X.calm = true) (S : BlkScope X scope own fr) (hi : PI X tg iter wi)
    (hg : ∀ C ex s H, PG (blkCx X scope own fr C ex s H) tg g) (ht : ∀ C ex s H, PTs (blkCx X scope own fr C ex s H) ifs tc) (he : ∀ C ex s H, PE (blkCx X scope own fr C ex s H) elt te)
    (hsw : swapsWith (.ListComp elt [⟨tg, iter, ifs, 0⟩] scope pos) (some (.Name x px)) spos.line X.env = pure true := by rfl)
    (hf : X.fn x = true ∨ X.env.scope.names.lookup x = some .local := by first | exact .inl rfl | exact .inr rfl | assumption)
    (hs : ∀ x, foldedSetIterable iter X.env x = pure x := by intro _; rfl) : PS X (.Assign [.Name x px] (.ListComp elt [⟨tg, iter, ifs, 0⟩] scope pos) spos) (tAsg (tComp wi own fr g tc te) (gName i)) := by
  intro pins s σ H D I h
  rw [exec_Assign_Name_used _ _ _ _ hsw]
  refine wpAny_bind (wpAny_standAt (wpAny_bind ?_))
  show wpAny _ X.A (do let _ ← comprehension (.ListComp elt [⟨tg, iter, ifs, 0⟩] scope pos) scope X.env _ (newList []) false (eval iter X.env) (some (assign (.Name x px) X.env))) _ _ s
  refine wpAny_bind (wpAny_mono (wpAny_comprehension_free (use := some (assign (.Name x px) X.env)) (Q := fun _ s' => SP X pins D .next s') rfl hs (closureFor_eq (S.cells I.ok)) S.kind S.loc
    (thn (hi pins s σ H _ I h) fun xv s₁ h₁ => thn h₁ fun itv s₂ h₂ => ?_)) (fun _ s' hq => wpAny_pure (wpAny_pure hq)) fun _ _ e => e)
  obtain ⟨it, fp, tn, J, H2, rfl, I2, T, st2, f2, h2⟩ := h₂
  refine comp_run (Q := fun x H1 => gName i x σ H1 D.nx) (RR := fun acc C => compPost (model X.prog X.w) X.A X.xe (some (assign (.Name x px) X.env)) (fun _ s' => SP X pins D .next s') acc C) hc S hg ht he I2 T st2 f2 h2 ?_
  rintro Dl C H' s' I' ⟨m, hn⟩ f q
  obtain ⟨o, es, ep, ho, hd, r⟩ := hn
  have pinC : ∀ v, o.data ≠ .cell v := fun v z => by rw [hd] at z; cases z
  have I'' : Inv X (pins ++ [(C, o)]) σ H' s' := I'.pins_of fun p hp => (List.mem_append.mp hp).elim (fun z => I'.pin p (List.mem_append_right _ z)) fun z => by
    have e : p = (C, o) := by simpa using z
    subst e
    exact ⟨ho, f.1, f.2.1, f.2.2.1, pinC⟩
  show wpAny _ X.A (assign (.Name x px) X.env (.ref Dl)) _ _ s'
  refine wpAny_assign_Name (store_ok I'' hN hix hx (v := .ref Dl) rfl (fun s2 I2 => ?_) hf)
  have pc := (I2.pin (C, o) (List.mem_append_right _ (List.mem_append_right _ (by simp)))).1
  refine ⟨m, ⟨o, es, ep, pc, hd, r⟩, fun h' sb => ⟨_, H', ?_, q⟩⟩
  exact (I2.unpinned (pl := [(C, o)])).turned (t' := s2.toks) (it := C) (fun b o hb e => (sb.2 b hb).trans e) f.1 f.2.1 f.2.2.2.1 f.2.2.2.2.1 f.2.2.2.2.2
end
section
variable {X : Cx} {tg : Expr}
end
end L2
namespace L2
open PySem PySem.Spec PyProof.Rows
section
variable {X : Cx}
theorem fst_of_ints : ∀ {ns : List Int} {l : List (Int × Tok)}, Vals (ns.map V.int) (l.map fun p => Value.int p.1 p.2) → l.map (·.1) = ns
  | [], [], _ => rfl
  | n :: ns, p :: l, r => by
    cases r with
    | cons r1 r2 =>
      obtain ⟨t, e⟩ := r1
      injection e with e1 e2
      rw [List.map_cons, fst_of_ints r2, e1]
  | [], _ :: _, r => by cases r
  | _ :: _, [], r => by cases r
theorem call_sum (hc : X.calm = true) : CallR X (.builtin "sum") (fun xs H Q => ∃ (p : Addr) (ns : List Int), xs = [.ref p] ∧ SqL X.K H p (ns.map V.int) ∧ Q (.int ns.sum) H) := by
  intro pins s σ H xs us Q I r h
  obtain ⟨p, ns, rfl, hq, q⟩ := h
  obtain ⟨u, rfl, rx⟩ := vals1 r
  cases rx
  obtain ⟨its, rv, pl, _⟩ := I.list hq
  obtain ⟨ps, e⟩ := (IntsAre.allInts (intsAre_of rv)).items
  have e' : its = ps.toList.map fun p => Value.int p.1 p.2 := by
    have := congrArg Array.toList e
    simpa [intItems] using this
  have hl := pl.isList
  rw [e] at hl
  refine sum_intListG (I.ok.hd hc) hl fun h' tk t' hk => ?_
  have es : preSum (numAt ps) ps.size = ns.sum := by
    rw [preSum_eq, List.take_of_length_le (by simp), fst_of_ints (ns := ns) (l := ps.toList) (by rw [← e']; exact rv)]
  rw [es]
  exact ⟨.int ns.sum, H, I.kept hk, ⟨t', rfl⟩, q⟩
theorem call_isinst : CallR X (.builtin "isinstance") (fun xs H Q => ∃ x n t b, xs = [x, .ty n] ∧ TyOf X.K H x t ∧ PySem.W.kitOne X.K t (.type n) = some b ∧ Q (.bl b) H) := by
  intro pins s σ H xs us Q I r h
  obtain ⟨x, n, t, b, rfl, ty, e, q⟩ := h
  obtain ⟨u, c, rfl, rx, rc⟩ := vals2 r
  cases rc
  exact isinst_ok I rx ty e fun tk => ⟨.bl b, H, I.tok tk, rfl, q⟩
noncomputable def rCatS (K : PySem.W.Frag) : R2 := fun x y H Q => ∃ l b xs zs, x = .ref l ∧ y = .ref b ∧ SqL K H l xs ∧ SqL K H b zs ∧ xs.length + zs.length ≤ sizeLine ∧ ∀ p, H p = none → Q (.ref p) (upd H p (.lst (xs ++ zs)))
theorem op_catS : OpR X (binaryOp .Add) (rCatS X.K) := by
  intro pins s σ H x y v u Q I rx ry h
  obtain ⟨l, b, xs, zs, rfl, rfl, hH, hB, hz, q⟩ := h
  cases rx
  cases ry
  obtain ⟨its, r, pl, _⟩ := I.list hH
  obtain ⟨its2, r2, pl2, _⟩ := I.list hB
  have h1 := r.length
  have h2 := r2.length
  obtain ⟨⟨cls, dd, data, sl⟩, n, ho, hc, hdd, hd⟩ := pl
  obtain ⟨⟨cls2, dd2, data2, sl2⟩, n2, ho2, hc2, hdd2, hd2⟩ := pl2
  simp only at hc hdd hd hc2 hdd2 hd2
  subst hc hdd hd hc2 hdd2 hd2
  refine concat_meets ⟨_, ho, rfl⟩ ⟨_, ho2, rfl⟩ noFill_list_add seq_list_add PySem.F.slot_list_add PySem.F.entry_list_add (PySem.F.args_list_add_2 _ _) (list_addW l b its.toArray its2.toArray n n2 none none sl sl2 (by rw [List.size_toArray, List.size_toArray]; omega)) ⟨ho, ho2, ?_⟩
  have e : its.toArray ++ its2.toArray = (its ++ its2).toArray := by simp
  rw [e]
  exact ⟨.ref _, _, I.lnew (t' := s.toks) (r.append r2) (by rw [List.length_append]; omega), rfl, q _ I.fresh⟩
noncomputable def eqVs (xs ys : List V) : Bool := xs.length == ys.length && (List.range xs.length).all fun i => eqV (xs.getD i .non) (ys.getD i .non)
theorem flat_getD {xs : List V} (h : xs.all flatV = true) {i : Nat} (hi : i < xs.length) : flatV (xs.getD i .non) = true := by
  rw [List.getD_eq_getElem?_getD, List.getElem?_eq_getElem hi]
  exact (List.all_eq_true.mp h) _ (List.getElem_mem hi)
noncomputable def rEqL (K : PySem.W.Frag) (neg : Bool) : R2 := fun x y H Q => ∃ p q xs ys, x = .ref p ∧ y = .ref q ∧ SqL K H p xs ∧ SqL K H q ys ∧ xs.all flatV = true ∧ ys.all flatV = true ∧ Q (.bl (if neg then !eqVs xs ys else eqVs xs ys)) H
theorem eqAt_items {A : Around} {s : Shared} {xs ys : List V} {its its2 : List Value} (r : Vals xs its) (r2 : Vals ys its2) (fx : xs.all flatV = true) (fy : ys.all flatV = true) :
    ∀ j (h1 : j < its.toArray.size) (h2 : j < its2.toArray.size), SeqAt.EqAt A s its.toArray[j] its2.toArray[j] (eqV (xs.getD j .non) (ys.getD j .non)) := fun j h1 h2 => by
  have l1 := r.length
  have l2 := r2.length
  have h1' : j < its.length := by simpa using h1
  have h2' : j < its2.length := by simpa using h2
  have g1 : xs[j]? = some (xs.getD j .non) := by rw [List.getD_eq_getElem?_getD, List.getElem?_eq_getElem (by omega)]; rfl
  have g2 : ys[j]? = some (ys.getD j .non) := by rw [List.getD_eq_getElem?_getD, List.getElem?_eq_getElem (by omega)]; rfl
  obtain ⟨u, e1, ru⟩ := r.get g1
  obtain ⟨u2, e2, ru2⟩ := r2.get g2
  have q1 : its.toArray[j] = u := by rw [List.getElem?_eq_getElem h1'] at e1; simpa using Option.some.inj e1
  have q2 : its2.toArray[j] = u2 := by rw [List.getElem?_eq_getElem h2'] at e2; simpa using Option.some.inj e2
  rw [q1, q2]
  exact eqAt_V ru ru2 (flat_getD fx (by omega)) (flat_getD fy (by omega))
theorem op_eqL (hu : X.A.units < cLine) : OpR X (compareOp .Eq) (rEqL X.K false) := by
  intro pins s σ H x y v u Q I rx ry h
  obtain ⟨p, q, xs, ys, rfl, rfl, h1, h2, fx, fy, hq⟩ := h
  cases rx
  cases ry
  obtain ⟨its, r, pl, _⟩ := I.list h1
  obtain ⟨its2, r2, pl2, _⟩ := I.list h2
  have l1 := r.length
  have l2 := r2.length
  by_cases hl : xs.length = ys.length
  · refine SeqAt.eq_listAt pl.isList pl2.isList (by simp; omega) hu (eqAt_items r r2 fx fy) ⟨.bl _, H, I, rfl, ?_⟩
    have e : eqVs xs ys = (List.range its.toArray.size).all fun i => eqV (xs.getD i .non) (ys.getD i .non) := by
      unfold eqVs
      rw [hl, beq_self_eq_true, Bool.true_and, List.size_toArray, ← l1, hl]
    rw [← e]
    exact hq
  · refine SeqAt.eq_list_lengthsAt pl.isList pl2.isList (by simp; omega) hu ⟨.bl _, H, I, rfl, ?_⟩
    have e : eqVs xs ys = false := by unfold eqVs; rw [beq_eq_false_iff_ne.mpr hl, Bool.false_and]
    rw [← e]
    exact hq
theorem op_neL (hu : X.A.units < cLine) : OpR X (compareOp .NotEq) (rEqL X.K true) := by
  intro pins s σ H x y v u Q I rx ry h
  obtain ⟨p, q, xs, ys, rfl, rfl, h1, h2, fx, fy, hq⟩ := h
  cases rx
  cases ry
  obtain ⟨its, r, pl, _⟩ := I.list h1
  obtain ⟨its2, r2, pl2, _⟩ := I.list h2
  have l1 := r.length
  have l2 := r2.length
  by_cases hl : xs.length = ys.length
  · refine SeqAt.RcNeAt.lists pl.isList pl2.isList (by simp; omega) hu (eqAt_items r r2 fx fy) _ _ _ _ ⟨.bl _, H, I, rfl, ?_⟩
    have e : eqVs xs ys = (List.range its.toArray.size).all fun i => eqV (xs.getD i .non) (ys.getD i .non) := by
      unfold eqVs
      rw [hl, beq_self_eq_true, Bool.true_and, List.size_toArray, ← l1, hl]
    rw [← e]
    exact hq
  · refine SeqAt.RcNeAt.lists_lengths pl.isList pl2.isList (by simp; omega) hu _ _ _ _ ⟨.bl _, H, I, rfl, ?_⟩
    have e : eqVs xs ys = false := by unfold eqVs; rw [beq_eq_false_iff_ne.mpr hl, Bool.false_and]
    rw [e] at hq
    exact hq
theorem eqVs_of {α : Type} [DecidableEq α] (f : α → V) (hf : ∀ a b, eqV (f a) (f b) = decide (a = b)) (as bs : List α) : eqVs (as.map f) (bs.map f) = decide (as = bs) := by
  unfold eqVs
  rw [Bool.eq_iff_iff, Bool.and_eq_true, List.all_eq_true, decide_eq_true_iff, beq_iff_eq, List.length_map, List.length_map]
  constructor
  · rintro ⟨h1, h2⟩
    refine List.ext_getElem h1 fun i g1 g2 => ?_
    have := h2 i (by simpa using g1)
    rw [List.getD_eq_getElem?_getD, List.getD_eq_getElem?_getD, List.getElem?_map, List.getElem?_map, List.getElem?_eq_getElem g1, List.getElem?_eq_getElem g2] at this
    have := (hf _ _).symm.trans this
    exact of_decide_eq_true this
  · rintro rfl
    refine ⟨rfl, fun i hi => ?_⟩
    have hi : i < as.length := by simpa using hi
    rw [List.getD_eq_getElem?_getD, List.getElem?_map, List.getElem?_eq_getElem hi]
    show eqV (f as[i]) (f as[i]) = true
    rw [hf]
    exact decide_eq_true rfl
theorem eqVs_int (as bs : List Int) : eqVs (as.map V.int) (bs.map V.int) = decide (as = bs) := eqVs_of V.int (fun a b => by show (a == b) = _; rw [Bool.eq_iff_iff, beq_iff_eq, decide_eq_true_iff]) as bs
theorem flat_int (as : List Int) : (as.map V.int).all flatV = true := by simp [flatV]
end
end L2
namespace L2
open PySem PySem.Spec PyProof.Rows
noncomputable def CallF (P : Program) (w : World) (K : PySem.W.Frag) (mg : Str → Option Value) (base : Heap) (x : Str) (k : Nat) (ps : List Str) (sp : Sp) : Prop :=
  ∃ f fd, mg x = some (.ref f) ∧ PySem.W.keepIn K (.ref f) = true ∧ FnOk P w K mg base CX0 k f fd ps sp ∧ Binds K fd ps []
section
variable {X : Cx} {x : Str} {k : Nat} {ps : List Str} {sp : Sp} {e : Expr} {es : List Expr} {t : TA} {p pos : Pos}
theorem pe_callF (h : CallF X.prog X.w X.K X.mg X.base x k ps sp) (hr : Room k X.A) (ha : PA X (e :: es) t) (hg : Gl X x := by rfl) (hdb : (x == ("__debug__" : Str)) = false := by decide)
    (he : starEach (e :: es) X.env = (false, eval e X.env) :: starEach es X.env := by rfl) (hpl : (backTo pos (starEach es X.env)).any (·.1) = false := by rfl) :
    PE X (.Call (.Name x p) (e :: es) [] pos) (tCall sp [] E0 t) := by
  obtain ⟨f, fd, hm, hk, F, hb⟩ := h
  exact pe_call F hr hg hm hk hb .nil pass0 ha hdb he hpl
end
structure DefAt (K : PySem.W.Frag) (mg : Str → Option Value) (x : Str) (st : Stmt) (ps : List Str) (f : Addr) (fd : FuncData) : Prop where
  fn : Fun K x x st f fd
  at' : mg x = some (.ref f)
  bi : Binds K fd ps []
theorem DefAt.call {P : Program} {w : World} {K : PySem.W.Frag} {mg : Str → Option Value} {base : Heap} {x : Str} {st : Stmt} {ps : List Str} {f : Addr} {fd : FuncData} {k : Nat} {sp : Sp} (d : DefAt K mg x st ps f fd)
    (F : FnOk P w K mg base CX0 k f fd ps sp) : CallF P w K mg base x k ps sp := ⟨f, fd, d.at', d.fn.kp, F, d.bi⟩
noncomputable def kitB (n T : String) : Option Bool := if (Value.type n == Value.type T) = true then some true else if PySem.W.kitMeta T = true then (fastBuiltinMro n).map (·.contains (.type T)) else none
section
variable {K : PySem.W.Frag} {H : Hp} {x : V} {n : String}
theorem kb {n T : String} {b : Bool} (h : kitB n T = some b) : PySem.W.kitOne K (.type n) (.type T) = some b := h
end
section
variable {X : Cx}
noncomputable def Own (mg : Str → Option Value) (names : List Str) : Prop := ∀ x ∈ names, mg x = none
theorem pe_ty {x : Str} {T : String} {pos : Pos} (hg : Gl X x) (hm : X.mg x = none) (hv : bootBuiltins x = some (.type T)) (hn : x ≠ "__name__" := by decide) (hd : (x == ("__debug__" : Str)) = false := by decide) : PE X (.Name x pos) (tC (.ty T)) :=
  pe_bltn hg hm hv (show RelV (.ty T) (.type T) from rfl) hn hd
end
end L2
namespace L2
open PySem PySem.Spec PyProof.Rows
noncomputable def frOf (N : List Str) (scope : Scope) : List (Str × Nat) := scope.names.filterMap fun y => if y.2 = .free then (N.findIdx? fun n => decide (n = y.1)).map fun i => (y.1, i) else none
noncomputable def blkOk (sc : Scope) (N : List Str) (scope : Scope) (own : List Str) (fr : List (Str × Nat)) : Bool :=
  decide (scope.kind = .function) &&
  (scope.names.all fun y => decide (y.2 ≠ .cell) && (decide (y.2 ≠ .local) || decide (scope.names.lookup y.1 = some .local)) &&
    (decide (y.2 ≠ .free) || ((decide (sc.names.lookup y.1 = some .cell) || decide (sc.names.lookup y.1 = some .free)) && decide (scope.names.lookup y.1 = some .free)))) &&
  (fr.all fun p => decide (N[p.2]? = some p.1) && decide ((p.1, NameKind.free) ∈ scope.names)) &&
  (own.all fun x => decide (scope.names.lookup x = some .local)) && decide ((own ++ fr.map (·.1)).Nodup)
section
variable {X : Cx} {scope : Scope} {own : List Str} {fr : List (Str × Nat)}
theorem BlkScope.of (h : blkOk X.env.scope X.N scope own fr = true) : BlkScope X scope own fr := by
  unfold blkOk at h
  simp only [Bool.and_eq_true, List.all_eq_true, decide_eq_true_iff, Bool.or_eq_true] at h
  obtain ⟨⟨⟨⟨h1, h2⟩, h3⟩, h4⟩, h5⟩ := h
  exact ⟨h1, fun y hy => (h2 y hy).1.1, fun y hy e => (h2 y hy).1.2.resolve_left (fun z => z e), fun y hy e => ((h2 y hy).2.resolve_left (fun z => z e)).1, fun p hp => h3 p hp, fun x hx => ((h2 _ hx).2.resolve_left (fun z => z rfl)).2⟩
theorem blkOk_own (h : blkOk X.env.scope X.N scope own fr = true) : (∀ x ∈ own, scope.names.lookup x = some .local) ∧ (own ++ fr.map (·.1)).Nodup := by
  unfold blkOk at h
  simp only [Bool.and_eq_true, List.all_eq_true, decide_eq_true_iff, Bool.or_eq_true] at h
  exact ⟨h.1.2, h.2⟩
theorem pg_own {i : Nat} {x : Str} {px : Pos} (h : blkOk X.env.scope X.N scope own fr = true) (hi : own[i]? = some x) (C : Addr) (ex : List Addr) (s : Shared) (H : Hp) : PG (blkCx X scope own fr C ex s H) (.Name x px) (gName i) := by
  obtain ⟨h1, h2⟩ := blkOk_own h
  have hl : (relabel scope X.env).names.lookup x = some .local := lookup_relabel_local (h1 x (List.mem_of_getElem? hi))
  have hlt := (List.getElem?_eq_some_iff.mp hi).1
  refine pg_name h2 ?_ (.inl hl) (.inr hl)
  show (own ++ fr.map (·.1))[i]? = some x
  rw [List.getElem?_append_left hlt]
  exact hi
theorem pe_comp1 {elt iter : Expr} {x : Str} {px : Pos} {ifs : List Expr} {pos : Pos} {wi : TI} {tc : TT} {te : TE} (hi : PI X (.Name x px) iter wi)
    (ht : ∀ C ex s H, PTs (blkCx X scope [x] (frOf X.N scope) C ex s H) ifs tc) (he : ∀ C ex s H, PE (blkCx X scope [x] (frOf X.N scope) C ex s H) elt te)
    (hb : blkOk X.env.scope X.N scope [x] (frOf X.N scope) = true := by with_unfolding_all rfl) (hc : X.calm = true := by rfl)
    (hs : ∀ x, foldedSetIterable iter X.env x = pure x := by intro _; rfl) : PE X (.ListComp elt [⟨.Name x px, iter, ifs, 0⟩] scope pos) (tComp wi [x] (frOf X.N scope) (gName 0) tc te) :=
  pe_comp hc (.of hb) hi (fun C ex s H => pg_own hb rfl C ex s H) ht he hs
theorem ps_comp1 {i : Nat} {y x : Str} {py px spos : Pos} {elt iter : Expr} {ifs : List Expr} {pos : Pos} {wi : TI} {tc : TT} {te : TE} (hN : X.N.Nodup) (hix : X.N[i]? = some y) (hx : Loc X.env.scope y) (hi : PI X (.Name x px) iter wi)
    (ht : ∀ C ex s H, PTs (blkCx X scope [x] (frOf X.N scope) C ex s H) ifs tc) (he : ∀ C ex s H, PE (blkCx X scope [x] (frOf X.N scope) C ex s H) elt te)
    (hb : blkOk X.env.scope X.N scope [x] (frOf X.N scope) = true := by with_unfolding_all rfl) (hc : X.calm = true := by rfl)
    (hsw : swapsWith (.ListComp elt [⟨.Name x px, iter, ifs, 0⟩] scope pos) (some (.Name y py)) spos.line X.env = pure true := by rfl)
    (hf : X.fn y = true ∨ X.env.scope.names.lookup y = some .local := by first | exact .inl rfl | exact .inr rfl | assumption)
    (hs : ∀ x, foldedSetIterable iter X.env x = pure x := by intro _; rfl) :
    PS X (.Assign [.Name y py] (.ListComp elt [⟨.Name x px, iter, ifs, 0⟩] scope pos) spos) (tAsg (tComp wi [x] (frOf X.N scope) (gName 0) tc te) (gName i)) :=
  ps_comp hN hix hx hc (.of hb) hi (fun C ex s H => pg_own hb rfl C ex s H) ht he hsw hf hs
end
end L2
namespace L2
open PySem PySem.Spec PyProof.Rows
noncomputable def rLen (K : PySem.W.Frag) : List V → Hp → VK → Prop := fun xs H Q => ∃ x n, xs = [x] ∧ LenV K x H n ∧ Q (.int n) H
noncomputable def rSum (K : PySem.W.Frag) : List V → Hp → VK → Prop := fun xs H Q => ∃ (p : Addr) (ns : List Int), xs = [.ref p] ∧ SqL K H p (ns.map V.int) ∧ Q (.int ns.sum) H
noncomputable def rIsin (K : PySem.W.Frag) : List V → Hp → VK → Prop := fun xs H Q => ∃ x n t b, xs = [x, .ty n] ∧ TyOf K H x t ∧ PySem.W.kitOne K t (.type n) = some b ∧ Q (.bl b) H
noncomputable def rListOf (K : PySem.W.Frag) : List V → Hp → VK → Prop := fun xs H Q => ∃ p ys, xs = [.ref p] ∧ (SqL K H p ys ∨ SqT K H p ys) ∧ ∀ l, H l = none → Q (.ref l) (upd H l (.lst ys))
section
variable {X : Cx} {K : PySem.W.Frag}
theorem k_len (hK : X.K = K := by rfl) : CallR X (.builtin "len") (rLen K) := by subst hK; exact call_len
theorem k_sum (hK : X.K = K := by rfl) (hc : X.calm = true := by rfl) : CallR X (.builtin "sum") (rSum K) := by subst hK; exact call_sum hc
theorem k_isin (hK : X.K = K := by rfl) : CallR X (.builtin "isinstance") (rIsin K) := by subst hK; exact call_isinst
theorem k_list (hK : X.K = K := by rfl) : CallR X (.type "list") (rListOf K) := by subst hK; exact call_list_of
theorem k_ixl (hK : X.K = K := by rfl) : IxR X (rIxL K) := by subst hK; exact ix_list
theorem k_cat (hK : X.K = K := by rfl) : OpR X (binaryOp .Add) (rCatS K) := by subst hK; exact op_catS
theorem k_nel (hu : X.A.units < cLine) (hK : X.K = K := by rfl) : OpR X (compareOp .NotEq) (rEqL K true) := by subst hK; exact op_neL hu
theorem k_sll (hK : X.K = K := by rfl) : SlR X (rSlL K) := by subst hK; exact sl_list
theorem k_pil {tg l : Expr} {tl : TE} (hl : PE X l tl) (hK : X.K = K := by rfl) : PI X tg l (iList K tl) := by subst hK; exact pi_list hl
end
end L2
namespace L2
open PySem PySem.Spec PyProof.Rows
section
variable {X : Cx} {pins : List (Addr × Obj)} {σ : St} {H : Hp} {s : Shared} {h' : Heap}
theorem Inv.turnedL {t' : Nat} (ch : List Addr) (I : Inv X pins σ H s) (hf : ∀ b ∈ ch, FpOk X pins H b) (k : ∀ b o, b ∉ ch → s.heap.get? b = some o → h'.get? b = some o) : Inv X pins σ H { s with heap := h', toks := t' } := by
  have nit : ∀ b u, H b = some u → b ∉ ch := fun b u e z => by rw [(hf b z).1] at e; cases e
  refine I.step (g' := s.gens) (d' := s.drawn) (ch := ch) (fun b hb => ?_) (fun b o _ _ hc e _ => k b o hc e) (fun b o _ _ hc e _ => ⟨o.slots, k b o hc e⟩) (fun _ _ _ _ n => n)
    (fun b o hc e => ⟨o, k b o hc e⟩) (fun _ _ e => e) (fun _ _ _ e => e) (fun b ps e => ⟨#[], by rw [e]; simp⟩) (fun m hm => ?_) (fun b u e => ?_) I.bare
  · obtain ⟨f0, f1, f2, f3, f4, f5⟩ := hf b hb
    exact ⟨f3, f1, f4, f5⟩
  · obtain ⟨o, es, ep, ho, r⟩ := hm
    exact ⟨o, es, ep, k _ o (fun z => (hf _ z).2.1 rfl) ho, r⟩
  · refine (I.hok b u e).stay (fun c v hc q => k c v ?_ q) (fun _ q => q) fun _ _ q => q
    rcases hc with z | z
    · rw [z]; exact nit b u e
    · exact nit c _ z
end
noncomputable def Ite (K : PySem.W.Frag) (a : Addr) : It :=
  ⟨fun i H => ∃ xs x, SqL K H a xs ∧ xs[i]? = some x, fun i H v H' => ∃ p x, H p = none ∧ v = .ref p ∧ H' = upd H p (.tup [.int i, x]) ∧ ∀ xs, SqL K H a xs → xs[i]? = some x, fun i H => ∃ xs, SqL K H a xs ∧ xs.length ≤ i⟩
theorem fp_upd {X : Cx} {pins : List (Addr × Obj)} {H : Hp} {b p : Addr} {o : HO} (h : FpOk X pins H b) (n : b ≠ p) : FpOk X pins (upd H p o) b := ⟨by rw [upd_ne n]; exact h.1, h.2⟩
theorem turn_enum {P : Program} {w : World} {K : PySem.W.Frag} {elts : List Expr} {k : Nat} {pos : Pos} (a e it : Addr) (hne : e ≠ it) :
    Turn P w K (.Tuple elts k pos) (Ite K a) [e, it] e (fun i h => (∃ old, IsEnum h e it i old) ∧ h.IsListIter it a i) where
  mem := by simp
  obj := fun i h st b hb => by
    obtain ⟨⟨old, he⟩, o, eo, c, d⟩ := st
    rcases List.mem_cons.mp hb with z | z
    · subst z
      exact ⟨_, he, fun v z => by cases (show Data.fields _ = Data.cell v from z)⟩
    · have z : b = it := by simpa using z
      subst z
      exact ⟨o, eo, fun v z => by rw [d] at z; cases z⟩
  keep := fun i h h' st kp => by
    obtain ⟨⟨old, he⟩, hi⟩ := st
    exact ⟨⟨old, kp e (by simp) _ he⟩, hi.at fun o z => kp it (by simp) o z⟩
  item := by
    intro X hP hw hK hc i pins s σ H E I hf st hg
    subst hP hw hK
    obtain ⟨xs, x, hq, hx⟩ := hg
    obtain ⟨its, rv, p, hz⟩ := I.list hq
    obtain ⟨u, hu, ru⟩ := rv.get hx
    obtain ⟨⟨old, he⟩, hi⟩ := st
    have hel : e < s.heap.objs.size := Heap.lt_size he
    have hil : it < s.heap.objs.size := by obtain ⟨_, z, _⟩ := hi; exact Heap.lt_size z
    refine wpAny_pyNext_enum_item he hi p.isList (x := u) (by simpa using hu) hne fun h' ho hi' hT hsz hk => ?_
    have I0 := I.laid (h' := s.heap.push { cls := .type "tuple", data := .seq #[.int i s.toks, u] }) (a := s.heap.objs.size) (o := .tup [.int i, x]) (t' := s.toks + 1) (fun _ _ q => Heap.get?_push_of_some _ q) (Nat.le_refl _)
      ⟨(by show 2 ≤ sizeLine; decide), [.int i s.toks, u], .cons ⟨_, rfl⟩ (.cons ru .nil), ⟨_, Heap.get?_push_size _ rfl, rfl, _, rfl⟩⟩
    have f0 : ∀ b ∈ [e, it], FpOk X pins (upd H s.heap.objs.size (.tup [.int i, x])) b := fun b hb => fp_upd (hf b hb) (by
      rcases List.mem_cons.mp hb with z | z
      · rw [z]; exact Nat.ne_of_lt hel
      · rw [show b = it by simpa using z]; exact Nat.ne_of_lt hil)
    have I1 := Inv.turnedL (t' := s.toks + 1) (h' := h') [e, it] I0 f0 (fun b o hb z => by
      have hb1 : b ≠ e := fun q => hb (by simp [q])
      have hb2 : b ≠ it := fun q => hb (by simp [q])
      rcases Heap.get?_push_cases (show (s.heap.push { cls := .type "tuple", data := .seq #[.int i s.toks, u] }).get? b = some o from z) with ⟨q1, q2⟩ | q
      · rw [q1, q2]; exact hT
      · exact hk b o hb1 hb2 q)
    refine ⟨.ref s.heap.objs.size, rfl, wpAny_letOwnedTupleGo_enum (s := { s with heap := h', toks := s.toks + 1 }) ho fun h2 he2 sb => ?_⟩
    refine ⟨.ref s.heap.objs.size, _, Inv.turnedL (t' := s.toks + 1) (h' := h2) [e, it] I1 f0 (fun b o hb z => (sb.2 b fun q => hb (by simp [q])).trans z), rfl, ⟨_, x, I.fresh, rfl, rfl, fun ys hy => by rw [I.list_inj hy hq]; exact hx⟩, ⟨⟨u, by simpa using he2⟩, hi'.at fun o z => (sb.2 it hne.symm).trans z⟩, fun b hb => (f0 b hb).1⟩
  done := by
    intro X hP hw hK hc i pins s σ H E I hf st hg
    subst hP hw hK
    obtain ⟨xs, hq, hx⟩ := hg
    obtain ⟨its, rv, p, hz⟩ := I.list hq
    obtain ⟨⟨old, he⟩, hi⟩ := st
    have hl := rv.length
    exact wpAny_pyNext_enum_end (I.ok.hd hc) he hi p.isList (by simp; omega) fun h' eb => ⟨rfl, I.turnedL (t' := s.toks) [e, it] hf fun b o hb z => eb b o (fun q => hb (by simp [q])) z⟩
  self := fun _ _ _ _ _ st h => by
    obtain ⟨⟨old, he⟩, _⟩ := st
    exact wpAny_pyIter_enum he h
section
variable {X : Cx} {elts : List Expr} {k : Nat} {tpos : Pos} {K : PySem.W.Frag}
noncomputable def iEnum (K : PySem.W.Frag) (ta : TA) : TI := fun σ H R => ta σ H fun vs H1 => ∃ a, vs = [.ref a] ∧ (∃ xs, SqL K H1 a xs) ∧ R (Ite K a) H1
theorem boot_enum : bootBuiltins "enumerate" = some (.type "enumerate") := by decide +kernel
theorem pi_enum {l : Expr} {ta : TA} {p pos : Pos} (hg : Gl X "enumerate") (hm : X.mg "enumerate" = none) (ha : PA X [l] ta) (hK : X.K = K := by rfl) (hs : starEach [l] X.env = [(false, eval l X.env)] := by rfl) : PI X (.Tuple elts k tpos) (.Call (.Name "enumerate" p) [l] [] pos) (iEnum K ta) := by
  subst hK
  intro pins s σ H R I h
  refine Call_ (ld_blt I hg hm boot_enum (PyProof.Rows.callWith_type1 (thn (ha pos pins s σ H _ I h) fun us s1 ⟨vs, H1, I1, r1, q1⟩ => ?_) hs rfl))
  obtain ⟨a, e, ⟨xs, hq⟩, q⟩ := q1
  subst e
  cases r1 with
  | cons r rr =>
    cases rr
    cases r
    obtain ⟨its, rv, pl, hz⟩ := I1.list hq
    refine call_enumerate_list pl.isList fun h' he hi hsz hk => ?_
    refine wpAny_pyIter_enum he ?_
    have I2 := I1.kept (t' := s1.toks) hk
    refine ⟨s1.heap.objs.size + 1, [s1.heap.objs.size + 1, s1.heap.objs.size], _, _, H1, rfl, I2, turn_enum a _ _ (Nat.succ_ne_self _), ⟨⟨_, he⟩, hi⟩, fun b hb => ?_, q⟩
    have hb' : s1.heap.objs.size ≤ b := by
      rcases List.mem_cons.mp hb with z | z
      · rw [z]; exact Nat.le_succ _
      · have z : b = s1.heap.objs.size := by simpa using z
        rw [z]; exact Nat.le_refl _
    exact I1.fpOk hb' (I1.hok.fresh hb')
end
section
variable {X : Cx} {elts : List Expr} {k : Nat} {tpos : Pos} {K : PySem.W.Frag}
end
end L2
namespace L2
open PySem PySem.Spec PyProof.Rows
noncomputable def SrcIt (tp : Bool) (h : Heap) (it l : Addr) (i : Nat) : Prop := if tp = true then h.IsTupleIter it l i else h.IsListIter it l i
noncomputable def SrcSq (tp : Bool) (h : Heap) (l : Addr) (xs : Array Value) : Prop := if tp = true then h.IsTuple l xs else h.IsList l xs
theorem srcIt_at {tp : Bool} {h h' : Heap} {it l : Addr} {i : Nat} (x : SrcIt tp h it l i) (k : ∀ o, h.get? it = some o → h'.get? it = some o) : SrcIt tp h' it l i := by
  cases tp with
  | false => obtain ⟨o, e, r⟩ := (show h.IsListIter it l i from x); exact (show h'.IsListIter it l i from ⟨o, k o e, r⟩)
  | true => obtain ⟨o, e, r⟩ := (show h.IsTupleIter it l i from x); exact (show h'.IsTupleIter it l i from ⟨o, k o e, r⟩)
theorem srcSq_at {tp : Bool} {h h' : Heap} {l : Addr} {xs : Array Value} (x : SrcSq tp h l xs) (k : ∀ o, h.get? l = some o → h'.get? l = some o) : SrcSq tp h' l xs := by
  cases tp with
  | false => obtain ⟨o, e, r⟩ := (show h.IsList l xs from x); exact (show h'.IsList l xs from ⟨o, k o e, r⟩)
  | true => obtain ⟨o, e, r⟩ := (show h.IsTuple l xs from x); exact (show h'.IsTuple l xs from ⟨o, k o e, r⟩)
theorem srcIt_obj {tp : Bool} {h : Heap} {it l : Addr} {i : Nat} (x : SrcIt tp h it l i) : ∃ o, h.get? it = some o ∧ o.data = .fields #[.ref l, .int i 0] := by
  cases tp with
  | false => obtain ⟨o, e, _, d⟩ := (show h.IsListIter it l i from x); exact ⟨o, e, d⟩
  | true => obtain ⟨o, e, _, d⟩ := (show h.IsTupleIter it l i from x); exact ⟨o, e, d⟩
theorem srcSq_obj {tp : Bool} {h : Heap} {l : Addr} {xs : Array Value} (x : SrcSq tp h l xs) : ∃ o n, h.get? l = some o ∧ o.data = .seq xs n := by
  cases tp with
  | false => obtain ⟨o, e, _, n, d⟩ := (show h.IsList l xs from x); exact ⟨o, n, e, d⟩
  | true => obtain ⟨o, e, _, n, d⟩ := (show h.IsTuple l xs from x); exact ⟨o, n, e, d⟩
section
variable {prog : Program} {w : World} {A : Around} {E : Value → Shared → Prop} {s : Shared}
theorem src_item {tp : Bool} {it l : Addr} {i : Nat} {xs : Array Value} {x : Value} {Q : Value → Shared → Prop} (ht : SrcIt tp s.heap it l i) (hq : SrcSq tp s.heap l xs) (hx : xs[i]? = some x)
    (k : ∀ h', SrcIt tp h' it l (i + 1) → Heap.SameBut it s.heap h' → Q x { s with heap := h' }) : wpAny (model prog w) A (Builtin.SmallTypes.nextOf (.ref it)) Q E s := by
  cases tp with
  | false => exact wpAny_nextOf_list_item (show s.heap.IsListIter it l i from ht) (show s.heap.IsList l xs from hq) hx k
  | true =>
    have ht : s.heap.IsTupleIter it l i := ht
    obtain ⟨ob, eb, cb, db⟩ := id ht
    obtain ⟨ol, el, _, nl, dl⟩ := (show s.heap.IsTuple l xs from hq)
    unfold Builtin.SmallTypes.nextOf
    refine wpAny_bind (wpAny_callSpecial?_slot (name := Str.ofString "__next__") ht.typeIs F.slot_tuple_iterator_next (wpAny_call_entry F.slot_tuple_iterator_next ht.typeIs F.entry_tuple_iterator_next ?_ (F.args_tuple_iterator_next_1 _)))
    show wpAny _ _ (field (.ref it) 0 >>= _) _ _ s
    refine wpAny_bind (wpAny_field eb db (x := .ref l) rfl ?_)
    show wpAny _ _ (if (Value.ref l == Value.none) = true then _ else _) _ _ s
    rw [if_neg (show ¬ ((Value.ref l == Value.none) = true) from Bool.false_ne_true)]
    show wpAny _ _ (field (.ref it) 1 >>= _) _ _ s
    refine wpAny_bind (wpAny_field eb db (x := .int i 0) rfl ?_)
    show wpAny _ _ (seqItems? (.ref l) >>= _) _ _ s
    refine wpAny_bind (wpAny_seqItems el dl ?_)
    simp only [Int.toNat_natCast, hx]
    refine wpAny_bind (wpAny_setField eb db (by simp) (wpAny_pure ⟨x, rfl, wpAny_pure (k _ ?_ (Heap.SameBut.update ..))⟩))
    exact (show Heap.IsTupleIter _ it l (i + 1) from ⟨_, Heap.get?_update_self _ eb (Obj.isFreed_of_fields (Obj.data_mapFields db _)), (Obj.cls_mapFields ..).trans cb, by rw [Obj.data_mapFields db]; simp [rawInt]⟩)
theorem src_end {tp : Bool} {it l : Addr} {i : Nat} {xs : Array Value} {Q : Value → Shared → Prop} (hh : A.handled = none) (ht : SrcIt tp s.heap it l i) (hq : SrcSq tp s.heap l xs) (hx : xs[i]? = none)
    (k : ∀ h' e, Heap.ExtBut it s.heap h' → (∃ o, h'.get? e = some o ∧ o.cls = .type "StopIteration") → E (.ref e) { s with heap := h' }) : wpAny (model prog w) A (Builtin.SmallTypes.nextOf (.ref it)) Q E s := by
  cases tp with
  | false => exact wpAny_nextOf_list_end hh (show s.heap.IsListIter it l i from ht) (show s.heap.IsList l xs from hq) hx k
  | true =>
    have ht : s.heap.IsTupleIter it l i := ht
    obtain ⟨ob, eb, cb, db⟩ := id ht
    obtain ⟨ol, el, _, nl, dl⟩ := (show s.heap.IsTuple l xs from hq)
    unfold Builtin.SmallTypes.nextOf
    refine wpAny_bind (wpAny_callSpecial?_slot (name := Str.ofString "__next__") ht.typeIs F.slot_tuple_iterator_next (wpAny_call_entry F.slot_tuple_iterator_next ht.typeIs F.entry_tuple_iterator_next ?_ (F.args_tuple_iterator_next_1 _)))
    show wpAny _ _ (field (.ref it) 0 >>= _) _ _ s
    refine wpAny_bind (wpAny_field eb db (x := .ref l) rfl ?_)
    show wpAny _ _ (if (Value.ref l == Value.none) = true then _ else _) _ _ s
    rw [if_neg (show ¬ ((Value.ref l == Value.none) = true) from Bool.false_ne_true)]
    show wpAny _ _ (field (.ref it) 1 >>= _) _ _ s
    refine wpAny_bind (wpAny_field eb db (x := .int i 0) rfl ?_)
    show wpAny _ _ (seqItems? (.ref l) >>= _) _ _ s
    refine wpAny_bind (wpAny_seqItems el dl ?_)
    simp only [Int.toNat_natCast, hx]
    refine wpAny_bind (wpAny_rule (wpAny_bind (wpAny_setField eb db (by simp) ?_)))
    show wpAny _ _ (newExc (.type "StopIteration") [] >>= _) _ _ _
    refine wpAny_bind ?_
    simp only [newExc, newTuple]
    refine wpAny_bind (wpAny_newObj_type ?_ (by size_fits))
    refine wpAny_bind (m := firstArgMember _ _) (wpAny_of_eq (a := Value.none) (by first | rfl | (simp only [firstArgMember]; rfl)) ?_)
    refine wpAny_newObj_type ?_ (by size_fits)
    simp only [raiseNew]
    refine wpAny_bind (wpAny_handled ?_)
    first | rw [show A.in1.handled = none from hh] | rw [hh]
    exact wpAny_bind (wpAny_pure (wpAny_throw (k _ _ (((Heap.SameBut.update ..).extBut.push _).push _) ⟨_, Heap.get?_push_size _ rfl, rfl⟩)))
end
section
variable {prog : Program} {w : World} {A : Around} {E : Value → Shared → Prop} {s : Shared}
structure ZipSt (t1 t2 : Bool) (h : Heap) (z TI TO i1 i2 l1 l2 : Addr) (k : Nat) : Prop where
  hz : IsZip h z TI TO .none
  hTI : IsPair h TI (.ref i1) (.ref i2)
  hTO : ∃ c d, IsPair h TO c d
  h1 : SrcIt t1 h i1 l1 k
  h2 : SrcIt t2 h i2 l2 k
noncomputable def srcTy (tp : Bool) : String := if tp = true then "tuple_iterator" else "list_iterator"
theorem src_iter {tp : Bool} {l : Addr} {xs : Array Value} {Q : Value → Shared → Prop} (hq : SrcSq tp s.heap l xs) (k : Q (.ref s.heap.objs.size) { s with heap := s.heap.push { cls := .type (srcTy tp), data := .fields #[.ref l, .int 0 0] } }) :
    wpAny (model prog w) A (pyIter (.ref l)) Q E s := by
  cases tp with
  | false => exact wpAny_pyIter_list (show s.heap.IsList l xs from hq) k
  | true => exact wpAny_pyIter_tuple (show s.heap.IsTuple l xs from hq) k
theorem srcIt_new {tp : Bool} {h : Heap} {l : Addr} : SrcIt tp (h.push { cls := .type (srcTy tp), data := .fields #[.ref l, .int 0 0] }) h.objs.size l 0 := by
  cases tp with
  | false => exact (show Heap.IsListIter _ _ l 0 from ⟨_, Heap.get?_push_size _ rfl, rfl, rfl⟩)
  | true => exact (show Heap.IsTupleIter _ _ l 0 from ⟨_, Heap.get?_push_size _ rfl, rfl, rfl⟩)
end
noncomputable def SqS (tp : Bool) (K : PySem.W.Frag) (H : Hp) (a : Addr) (xs : List V) : Prop := if tp = true then SqT K H a xs else SqL K H a xs
theorem sqS_src {X : Cx} {pins : List (Addr × Obj)} {σ : St} {H : Hp} {s : Shared} {tp : Bool} {a : Addr} {xs : List V} (I : Inv X pins σ H s) (h : SqS tp X.K H a xs) : ∃ its : List Value, Vals xs its ∧ SrcSq tp s.heap a its.toArray := by
  cases tp with
  | false =>
    obtain ⟨its, r, p, _⟩ := I.list (show SqL X.K H a xs from h)
    exact ⟨its, r, (show s.heap.IsList a its.toArray from p.isList)⟩
  | true =>
    obtain ⟨its, r, p, _⟩ := I.tuple (show SqT X.K H a xs from h)
    exact ⟨its, r, (show s.heap.IsTuple a its.toArray from p)⟩
theorem sqS_inj {X : Cx} {pins : List (Addr × Obj)} {σ : St} {H : Hp} {s : Shared} {tp : Bool} {a : Addr} {xs ys : List V} (I : Inv X pins σ H s) (h : SqS tp X.K H a xs) (h2 : SqS tp X.K H a ys) : xs = ys := by
  cases tp with
  | false => exact I.list_inj h h2
  | true => exact I.tuple_inj h h2
section
variable {X : Cx} {elts : List Expr} {k : Nat} {tpos : Pos} {K : PySem.W.Frag}
end
end L2
namespace L2
open PySem PySem.Spec PyProof.Rows
section
variable {X : Cx} {K : PySem.W.Frag}
theorem boot_list' : bootBuiltins "list" = some (.type "list") := by decide +kernel
theorem boot_any' : bootBuiltins "any" = some (.builtin "any") := by decide +kernel
theorem boot_min' : bootBuiltins "min" = some (.builtin "min") := by decide +kernel
theorem boot_max' : bootBuiltins "max" = some (.builtin "max") := by decide +kernel
theorem boot_sorted' : bootBuiltins "sorted" = some (.builtin "sorted") := by decide +kernel
theorem k_gtup {es : List Expr} {k : Nat} {t : TGs} {n : Nat} {pos : Pos} (hc : X.calm = true) (h : PGs X es t) (hK : X.K = K := by rfl)
    (hn : (assignEach es X.env).length = n := by rfl) (hst : (assignEach es X.env).findIdx? (·.1) = none := by rfl) : PG X (.Tuple es k pos) (gTup K n t) := by
  subst hK
  exact pg_tup hc h hn hst
variable {scope : Scope} {fr : List (Str × Nat)}
theorem pg_own2 {x y : Str} {px py pt : Pos} {k : Nat} (h : blkOk X.env.scope X.N scope [x, y] fr = true) (hc : X.calm = true) (C : Addr) (ex : List Addr) (s : Shared) (H : Hp) (hK : X.K = K := by rfl) :
    PG (blkCx X scope [x, y] fr C ex s H) (.Tuple [.Name x px, .Name y py] k pt) (gTup K 2 (gCons (gName 0) (gCons (gName 1) gNil))) := by
  subst hK
  exact pg_tup (X := blkCx X scope [x, y] fr C ex s H) hc (pgs_cons (pg_own h rfl C ex s H) (pgs_cons (pg_own h rfl C ex s H) pgs_nil))
theorem pe_comp2 {elt iter : Expr} {x y : Str} {px py pt : Pos} {k : Nat} {ifs : List Expr} {pos : Pos} {wi : TI} {tc : TT} {te : TE} (hi : PI X (.Tuple [.Name x px, .Name y py] k pt) iter wi)
    (ht : ∀ C ex s H, PTs (blkCx X scope [x, y] (frOf X.N scope) C ex s H) ifs tc) (he : ∀ C ex s H, PE (blkCx X scope [x, y] (frOf X.N scope) C ex s H) elt te) (hK : X.K = K := by rfl)
    (hb : blkOk X.env.scope X.N scope [x, y] (frOf X.N scope) = true := by with_unfolding_all rfl) (hc : X.calm = true := by rfl)
    (hs : ∀ x, foldedSetIterable iter X.env x = pure x := by intro _; rfl) : PE X (.ListComp elt [⟨.Tuple [.Name x px, .Name y py] k pt, iter, ifs, 0⟩] scope pos) (tComp wi [x, y] (frOf X.N scope) (gTup K 2 (gCons (gName 0) (gCons (gName 1) gNil))) tc te) :=
  pe_comp hc (.of hb) hi (fun C ex s H => pg_own2 hb hc C ex s H hK) ht he hs
theorem ps_comp2 {i : Nat} {v x y : Str} {pv px py pt spos : Pos} {k : Nat} {elt iter : Expr} {ifs : List Expr} {pos : Pos} {wi : TI} {tc : TT} {te : TE} (hN : X.N.Nodup) (hix : X.N[i]? = some v) (hx : Loc X.env.scope v) (hi : PI X (.Tuple [.Name x px, .Name y py] k pt) iter wi)
    (ht : ∀ C ex s H, PTs (blkCx X scope [x, y] (frOf X.N scope) C ex s H) ifs tc) (he : ∀ C ex s H, PE (blkCx X scope [x, y] (frOf X.N scope) C ex s H) elt te) (hK : X.K = K := by rfl)
    (hb : blkOk X.env.scope X.N scope [x, y] (frOf X.N scope) = true := by with_unfolding_all rfl) (hc : X.calm = true := by rfl)
    (hsw : swapsWith (.ListComp elt [⟨.Tuple [.Name x px, .Name y py] k pt, iter, ifs, 0⟩] scope pos) (some (.Name v pv)) spos.line X.env = pure true := by rfl)
    (hf : X.fn v = true ∨ X.env.scope.names.lookup v = some .local := by first | exact .inl rfl | exact .inr rfl | assumption)
    (hs : ∀ x, foldedSetIterable iter X.env x = pure x := by intro _; rfl) :
    PS X (.Assign [.Name v pv] (.ListComp elt [⟨.Tuple [.Name x px, .Name y py] k pt, iter, ifs, 0⟩] scope pos) spos) (tAsg (tComp wi [x, y] (frOf X.N scope) (gTup K 2 (gCons (gName 0) (gCons (gName 1) gNil))) tc te) (gName i)) :=
  ps_comp hN hix hx hc (.of hb) hi (fun C ex s H => pg_own2 hb hc C ex s H hK) ht he hsw hf hs
end
section
variable {K : PySem.W.Frag} {D : Addr} {σ0 : St} {tc : TT} {te : TE} {Q : VK} {H : Hp}
end
end L2
namespace L2
open PySem PySem.Spec PyProof.Rows
inductive Dt where
  | non | bl (b : Bool) | int (i : Int) | str (z : Str) | lst (xs : List Dt) | tup (xs : List Dt)
inductive Rp (H : Hp) (F : Addr → Prop) : Nat → V → Dt → Prop where
  | non {n : Nat} : Rp H F n .non .non
  | bl {n : Nat} (b : Bool) : Rp H F n (.bl b) (.bl b)
  | int {n : Nat} (i : Int) : Rp H F n (.int i) (.int i)
  | str {n : Nat} (z : Str) : Rp H F n (.str z) (.str z)
  | lst {n : Nat} {a : Addr} {vs : List V} {ds : List Dt} (h : H a = some (.lst vs)) (f : F a) (b : vs.length ≤ 100000) (l : vs.length = ds.length) (e : ∀ (i : Nat) (v : V) (d : Dt), vs[i]? = some v → ds[i]? = some d → Rp H F n v d) : Rp H F (n + 1) (.ref a) (.lst ds)
  | tup {n : Nat} {a : Addr} {vs : List V} {ds : List Dt} (h : H a = some (.tup vs)) (b : vs.length ≤ 100000) (l : vs.length = ds.length) (e : ∀ (i : Nat) (v : V) (d : Dt), vs[i]? = some v → ds[i]? = some d → Rp H F n v d) : Rp H F (n + 1) (.ref a) (.tup ds)
theorem Rp.mono {H H' : Hp} {F F' : Addr → Prop} {n : Nat} {v : V} {d : Dt} (r : Rp H F n v d) (k : ∀ a o, H a = some o → (∀ xs, o = .lst xs → F a) → H' a = some o) (f : ∀ a, F a → F' a) : Rp H' F' n v d := by
  induction r with
  | non => exact .non
  | bl b => exact .bl b
  | int i => exact .int i
  | str z => exact .str z
  | lst h p b l e ih => exact .lst (k _ _ h fun _ _ => p) (f _ p) b l fun i v d h1 h2 => ih i v d h1 h2
  | tup h b l e ih => exact .tup (k _ _ h fun xs q => by cases q) b l fun i v d h1 h2 => ih i v d h1 h2
theorem Rp.same {H H' : Hp} {F : Addr → Prop} {n : Nat} {v : V} {d : Dt} (r : Rp H F n v d) (s : Same H H') : Rp H' F n v d := r.mono (fun a o h _ => s a o h) fun _ h => h
theorem Rp.imp {H : Hp} {F F' : Addr → Prop} {n : Nat} {v : V} {d : Dt} (r : Rp H F n v d) (f : ∀ a, F a → F' a) : Rp H F' n v d := r.mono (fun a o h _ => h) f
noncomputable abbrev FT : Addr → Prop := fun _ => True
noncomputable abbrev FN (H : Hp) : Addr → Prop := fun a => H a = none
noncomputable def dInts (ns : List Int) : Dt := .lst (ns.map .int)
theorem ints_of {H : Hp} {F : Addr → Prop} {n : Nat} {v : V} {ns : List Int} (r : Rp H F n v (dInts ns)) : ∃ a, v = .ref a ∧ H a = some (.lst (ns.map V.int)) ∧ F a := by
  unfold dInts at r
  cases r with
  | @lst n a vs _ h f b l e =>
    refine ⟨a, rfl, ?_, f⟩
    rw [h]
    congr 2
    refine List.ext_getElem (by simpa using l) fun i h1 h2 => ?_
    have h2' : i < ns.length := by simpa using h2
    have := e i vs[i] (.int ns[i]) (by simp [h1]) (by simp [h2'])
    cases hv : vs[i] <;> rw [hv] at this <;> cases this
    simp
end L2
namespace L2
open PySem PySem.Spec PyProof.Rows
section
variable {t u : TS} {D : Ends} {σ : St} {H : Hp} {te ta tb tk : TE} {tt tu : TT} {g : TG} {Q : VK} {QT : Bool → Hp → Prop} {QA : List V → Hp → Prop} {i : Nat} {v x y : V} {r : R2} {tr : TA} {K : PySem.W.Frag}
theorem rd_seq (h : t { D with nx := u D } σ H) : tSeq t u D σ H := h
theorem rd_next (h : D.nx σ H) : tNext D σ H := h
theorem rd_asg (h : te σ H fun x H1 => g x σ H1 D.nx) : tAsg te g D σ H := h
theorem rd_name {QS : St → Hp → Prop} (h : QS (σ.set i (some v)) H) : gName i v σ H QS := h
theorem rd_var (e : σ[i]? = some (some v)) (h : Q v H) : tVar i σ H Q := ⟨v, e, h⟩
theorem rd_c (h : Q v H) : tC v σ H Q := h
theorem rd_op (h : ta σ H fun x H1 => tb σ H1 fun y H2 => r x y H2 Q) : tOp r ta tb σ H Q := h
theorem rd_un {ru : V → Hp → VK → Prop} (h : ta σ H fun x H1 => ru x H1 Q) : tUn ru ta σ H Q := h
theorem rd_rI {C : Int → Int → Prop} {gg : Int → Int → V} {a b : Int} (c : C a b) (h : Q (gg a b) H) : rI C gg (.int a) (.int b) H Q := ⟨a, b, rfl, rfl, c, h⟩
theorem rd_rI0 {gg : Int → Int → V} {a b : Int} (h : Q (gg a b) H) : rI0 gg (.int a) (.int b) H Q := ⟨a, b, rfl, rfl, h⟩
theorem rd_rU {gg : Int → V} {a : Int} (h : Q (gg a) H) : rU gg (.int a) H Q := ⟨a, rfl, h⟩
theorem rd_eqI {a b : Int} (h : Q (.bl (decide (a = b))) H) : rEq (.int a) (.int b) H Q := ⟨rfl, by rw [show decide (V.int a = V.int b) = decide (a = b) by rw [Bool.eq_iff_iff]; simp]; exact h⟩
theorem rd_neI {a b : Int} (h : Q (.bl (!decide (a = b))) H) : rNe (.int a) (.int b) H Q := ⟨rfl, by rw [show decide (V.int a = V.int b) = decide (a = b) by rw [Bool.eq_iff_iff]; simp]; exact h⟩
theorem rd_not (h : tt σ H fun c H1 => QT (!c) H1) : tNot tt σ H QT := h
theorem rd_test (h : te σ H fun x H' => ∃ k, x = .bl k ∧ QT k H') : tTest te σ H QT := h
theorem rd_tB (h : te σ H fun x H' => ∃ k, x = .bl k ∧ QT k H') : tB te σ H QT := h
theorem rd_bl {b : Bool} {R : Bool → Prop} (h : R b) : ∃ k, V.bl b = .bl k ∧ R k := ⟨b, rfl, h⟩
theorem rd_or (h : tt σ H fun c H1 => if c = true then QT true H1 else tu σ H1 QT) : tOr tt tu σ H QT := h
theorem rd_ifS (h : tt σ H fun b H1 => if b = true then t D σ H1 else u D σ H1) : tIfS tt t u D σ H := h
theorem rd_if (h : tt σ H fun c H1 => if c = true then ta σ H1 Q else tb σ H1 Q) : tIf tt ta tb σ H Q := h
theorem rd_ret (h : te σ H D.rt) : tRet te D σ H := h
theorem rd_drop (h : te σ H fun _ H1 => D.nx σ H1) : tDrop te D σ H := h
theorem rd_nil (h : QA [] H) : tNil σ H QA := h
theorem rd_cons (h : te σ H fun x H1 => tr σ H1 fun xs H2 => QA (x :: xs) H2) : tCons te tr σ H QA := h
theorem rd_lst (h : tr σ H fun xs H1 => xs.length ≤ sizeLine ∧ ∀ p, H1 p = none → Q (.ref p) (upd H1 p (.lst xs))) : tLst tr σ H Q := h
theorem rd_cb {rr : List V → Hp → VK → Prop} (h : tr σ H fun vs H1 => rr vs H1 Q) : tCB rr tr σ H Q := h
theorem rd_call {sp : Sp} {E : XK} (h : tr σ H fun vs H1 => sp vs H1 Q E) : tCall sp [] E tr σ H Q := by
  unfold tCall
  simpa using h
theorem rd_sl {rs : V → Option Int → Option Int → Hp → VK → Prop} {tl th : TO} (h : te σ H fun x H1 => tl σ H1 fun l H2 => th σ H2 fun u H3 => rs x l u H3 Q) : tSl rs te tl th σ H Q := h
theorem rd_part {QO : Option Int → Hp → Prop} (h : te σ H fun x H1 => ∃ i, x = .int i ∧ QO (some i) H1) : tPart te σ H QO := h
theorem rd_noPart {QO : Option Int → Hp → Prop} (h : QO none H) : tNoPart σ H QO := h
theorem rd_int {a : Int} {R : Int → Prop} (h : R a) : ∃ k, V.int a = .int k ∧ R k := ⟨a, rfl, h⟩
theorem rd_slL {p : Addr} {xs : List V} {lo hi : Option Int} (c : SqL K H p xs) (h : ∀ q, H q = none → Q (.ref q) (upd H q (.lst (cutV xs lo hi)))) : rSlL K (.ref p) lo hi H Q := ⟨p, xs, rfl, c, h⟩
theorem rd_lenL {p : Addr} {xs : List V} (c : SqL K H p xs) (h : Q (.int xs.length) H) : rLen K [.ref p] H Q := ⟨_, _, rfl, .inl ⟨xs, c, rfl⟩, h⟩
theorem rd_sum {p : Addr} {ns : List Int} (c : SqL K H p (ns.map V.int)) (h : Q (.int ns.sum) H) : rSum K [.ref p] H Q := ⟨p, ns, rfl, c, h⟩
theorem rd_isin {n : String} {ty : Value} {b : Bool} (c : TyOf K H x ty) (e : PySem.W.kitOne K ty (.type n) = some b) (h : Q (.bl b) H) : rIsin K [x, .ty n] H Q := ⟨x, n, ty, b, rfl, c, e, h⟩
theorem rd_ixL {p : Addr} {xs : List V} {k : Int} (c : SqL K H p xs) (e : atI xs k = some v) (h : Q v H) : rIxL K (.ref p) (.int k) H Q := ⟨p, xs, k, v, rfl, rfl, c, e, h⟩
theorem rd_len {xs : List V} {B : Prop} (c : xs.length ≤ 1000) (h : B) : xs.length ≤ sizeLine ∧ B := ⟨Nat.le_trans c (by decide), h⟩
end
theorem iteP {p A B : Prop} [Decidable p] (h1 : p → A) (h2 : ¬ p → B) : if decide p = true then A else B := by
  by_cases h : p
  · rw [if_pos (decide_eq_true h)]; exact h1 h
  · rw [if_neg (fun q => h (of_decide_eq_true q))]; exact h2 h
theorem iteN {p A B : Prop} [Decidable p] (h1 : ¬ p → A) (h2 : p → B) : if (!decide p) = true then A else B := by
  by_cases h : p
  · rw [decide_eq_true h]; exact iteF (h2 h)
  · rw [decide_eq_false h]; exact iteT (h1 h)
theorem iteB {b : Bool} {A B : Prop} (h1 : b = true → A) (h2 : b = false → B) : if b = true then A else B := by
  cases b with
  | true => exact iteT (h1 rfl)
  | false => exact iteF (h2 rfl)
theorem SqS.same {K : PySem.W.Frag} {H H' : Hp} {tp : Bool} {p : Addr} {xs : List V} (c : SqS tp K H p xs) (s : Same H H') : SqS tp K H' p xs := by
  cases tp with
  | false => exact (show SqL K H' p xs from s.seq c)
  | true =>
    rcases (show SqT K H p xs from c) with (q | ⟨o, q⟩) | q
    · exact (show SqT K H' p xs from .inl (.inl (s _ _ q)))
    · exact (show SqT K H' p xs from .inl (.inr ⟨o, s _ _ q⟩))
    · exact (show SqT K H' p xs from .inr q)
theorem same_new {H : Hp} {p : Addr} {o : HO} (h : H p = none) : Same H (upd H p o) := fun b u e => by rw [upd_ne (ne_of_none e h)]; exact e
theorem same_at {H H' : Hp} {D : Addr} {o : HO} (s : Same H H') (h : H D = none) : Same H (upd H' D o) := fun b u e => by rw [upd_ne (ne_of_none e h)]; exact s b u e
end L2
namespace L2
open PySem PySem.Spec PyProof.Rows
structure SrcOk (J : It) (g : TG) (σ0 : St) (H : Hp) (n : Nat) (st : Nat → St) : Prop where
  go : ∀ i H', i < n → Same H H' → J.go i H'
  stop : ∀ H', Same H H' → J.stop n H'
  yld : ∀ i H' x H'' (R : St → Hp → Prop), i < n → Same H H' → J.yld i H' x H'' → (∀ H3, Same H' H3 → R (st i) H3) → g x σ0 H'' R
  kp : ∀ i, i < n → Kp σ0 (st i)
section
variable {J : It} {g : TG} {σ0 : St} {H : Hp} {n : Nat} {st : Nat → St} {tc : TT} {te : TE} {Q : VK} {D : Addr}
theorem Rp.off {H : Hp} {F : Addr → Prop} {m : Nat} {v : V} {d : Dt} {D : Addr} {xs : List V} {o : HO} (r : Rp H F m v d) (hD : H D = some (.lst xs)) (hF : ¬ F D) : Rp (L2.upd H D o) F m v d := by
  refine r.mono (fun a u e q => ?_) fun _ h => h
  have n : a ≠ D := fun z => by
    subst z
    rw [hD] at e
    cases e
    exact hF (q _ rfl)
  rw [upd_ne n]
  exact e
theorem comp_data {m : Nat} {p : Nat → Bool} {G : Nat → Dt} (S : SrcOk J g σ0 H n st) (hD : H D = none) (hn : n ≤ 100000)
    (ht : ∀ i H' (R : Bool → Hp → Prop), i < n → Same H H' → (∀ H3, Same H' H3 → R (p i) H3) → tc (st i) H' R)
    (he : ∀ i H' (R : VK), i < n → p i = true → Same H H' → (∀ H3 y, Same H' H3 → Rp H3 (FN H') m y (G i) → R y H3) → te (st i) H' R)
    (hd : ∀ H' ys, Same H H' → H' D = some (.lst ys) → Rp H' (FN H) (m + 1) (.ref D) (.lst (((List.range n).filter p).map G)) → Q (.ref D) H') :
    CompW J σ0 g tc te Q H D := by
  refine ⟨fun i k ys H' => k = n - i ∧ i ≤ n ∧ Same H H' ∧ H' D = some (.lst ys) ∧ ys.length = (((List.range i).filter p).map G).length ∧ ∀ (j : Nat) (y : V) (d : Dt), ys[j]? = some y → (((List.range i).filter p).map G)[j]? = some d → Rp H' (fun a => H a = none ∧ a ≠ D) m y d,
    ⟨_, rfl, Nat.zero_le _, same_at (Same.refl _) hD, upd_same, rfl, fun j y d q => by simp at q⟩, ?_⟩
  rintro i k ys H1 ⟨rfl, hi, s1, hl, len, el⟩
  have bnd : ∀ i, (((List.range i).filter p).map G).length ≤ i := fun i => by
    rw [List.length_map]
    exact Nat.le_trans (List.length_filter_le _ _) (by simp)
  by_cases hlt : i < n
  · refine .inr ⟨S.go i H1 hlt s1, fun ys' H' => Same H H' ∧ H' D = some (.lst ys') ∧ ys'.length = (((List.range (i + 1)).filter p).map G).length ∧ ∀ (j : Nat) (y : V) (d : Dt), ys'[j]? = some y → (((List.range (i + 1)).filter p).map G)[j]? = some d → Rp H' (fun a => H a = none ∧ a ≠ D) m y d,
      fun ys' H' q => ⟨n - (i + 1), by omega, rfl, hlt, q⟩, fun x H2 y => ?_⟩
    refine S.yld i H1 x H2 _ hlt s1 y fun H3 s3 => ⟨S.kp i hlt, ?_⟩
    refine ht i H3 _ hlt (s1.trans s3) fun H4 s4 => ?_
    have hl4 : H4 D = some (.lst ys) := s4 _ _ (s3 _ _ hl)
    have s14 : Same H H4 := s1.trans (s3.trans s4)
    cases hp : p i with
    | false =>
      refine iteF ⟨s14, hl4, ?_, ?_⟩
      · rw [List.range_succ, List.filter_append, List.filter_cons, hp]
        simpa using len
      · intro j y d h1 h2
        have e : ((List.range (i + 1)).filter p).map G = ((List.range i).filter p).map G := by
          rw [List.range_succ, List.filter_append, List.filter_cons, hp]
          simp
        rw [e] at h2
        exact (el j y d h1 h2).same (s3.trans s4)
    | true =>
      refine iteT ?_
      refine he i H4 _ hlt hp s14 fun H5 y s5 ry => ?_
      have hl5 : H5 D = some (.lst ys) := s5 _ _ hl4
      have e : ((List.range (i + 1)).filter p).map G = ((List.range i).filter p).map G ++ [G i] := by
        rw [List.range_succ, List.filter_append, List.filter_cons, hp]
        simp
      refine ⟨hl5, ?_, ?_, upd_same, ?_, ?_⟩
      · have := bnd i
        exact Nat.lt_of_le_of_lt (by omega : ys.length ≤ 100000) (by decide)
      · exact same_at (s14.trans s5) hD
      · rw [e, List.length_append, List.length_append, len]
        rfl
      · intro j z d h1 h2
        rw [e] at h2
        have nF : ¬ (H D = none ∧ D ≠ D) := fun q => q.2 rfl
        by_cases hj : j < ys.length
        · rw [List.getElem?_append_left hj] at h1
          rw [List.getElem?_append_left (by omega)] at h2
          exact ((el j z d h1 h2).same (s3.trans (s4.trans s5))).off hl5 nF
        · have ej : j = ys.length := by
            have := (List.getElem?_eq_some_iff.mp h1).1
            rw [List.length_append] at this
            have : ([y] : List V).length = 1 := rfl
            omega
          subst ej
          rw [List.getElem?_append_right (Nat.le_refl _), Nat.sub_self] at h1
          rw [len, List.getElem?_append_right (Nat.le_refl _), Nat.sub_self] at h2
          cases h1
          cases h2
          refine (ry.imp (F' := fun a => H a = none ∧ a ≠ D) fun a ha => ⟨s14.free ha, fun q => ?_⟩).off hl5 nF
          subst q
          rw [show H4 a = none from ha] at hl4
          cases hl4
  · have e : i = n := by omega
    subst e
    refine .inl ⟨S.stop H1 s1, hd H1 ys s1 hl (.lst hl hD ?_ len fun j y d h1 h2 => (el j y d h1 h2).imp fun a q => q.1)⟩
    have := bnd i
    omega
theorem comp_map {m : Nat} {G : Nat → Dt} (S : SrcOk J g σ0 H n st) (hD : H D = none) (hn : n ≤ 100000)
    (he : ∀ i H' (R : VK), i < n → Same H H' → (∀ H3 y, Same H' H3 → Rp H3 (FN H') m y (G i) → R y H3) → te (st i) H' R)
    (hd : ∀ H' ys, Same H H' → H' D = some (.lst ys) → Rp H' (FN H) (m + 1) (.ref D) (.lst ((List.range n).map G)) → Q (.ref D) H') :
    CompW J σ0 g tYes te Q H D := by
  refine comp_data (p := fun _ => true) (m := m) (G := G) S hD hn (fun i H' R _ _ k => k H' (Same.refl _)) (fun i H' R hi _ s k => he i H' R hi s k) fun H' ys s hl r => hd H' ys s hl ?_
  have e : (List.range n).filter (fun _ => true) = List.range n := by simp
  rw [e] at r
  exact r
variable {K : PySem.W.Frag} {a b : Addr} {xs zs : List V}
theorem src_list (h : SqL K H a xs) (h0 : σ0[0]? = some none) : SrcOk (Itl K a) (gName 0) σ0 H xs.length (fun i => σ0.set 0 (some (xs.getD i .non))) where
  go := fun i H' hi s => ⟨xs, xs[i], s.seq h, by simp [hi]⟩
  stop := fun H' s => ⟨xs, s.seq h, Nat.le_refl _⟩
  yld := fun i H' x H'' R hi s y k => by
    obtain ⟨e, hv⟩ := y
    subst e
    have e : x = xs.getD i .non := by
      have := hv xs (s.seq h)
      rw [List.getD_eq_getElem?_getD, this]
      rfl
    subst e
    exact k _ (Same.refl _)
  kp := fun i hi => (Kp.refl _).set h0
theorem src_range {lo : Int} {n : Nat} (h0 : σ0[0]? = some none) : SrcOk (Itr lo n) (gName 0) σ0 H n (fun i => σ0.set 0 (some (.int (lo + i)))) where
  go := fun i H' hi s => hi
  stop := fun H' s => Nat.le_refl _
  yld := fun i H' x H'' R hi s y k => by
    obtain ⟨e, hv⟩ := y
    subst e hv
    exact k _ (Same.refl _)
  kp := fun i hi => (Kp.refl _).set h0
theorem src_enum (h : SqL K H a xs) (h0 : σ0[0]? = some none) (h1 : σ0[1]? = some none) : SrcOk (Ite K a) (gTup K 2 (gCons (gName 0) (gCons (gName 1) gNil))) σ0 H xs.length (fun i => (σ0.set 0 (some (.int i))).set 1 (some (xs.getD i .non))) where
  go := fun i H' hi s => ⟨xs, xs[i], s.seq h, by simp [hi]⟩
  stop := fun H' s => ⟨xs, s.seq h, Nat.le_refl _⟩
  yld := fun i H' x H'' R hi s y k => by
    obtain ⟨p, v, hp, rfl, rfl, hv⟩ := y
    have e : v = xs.getD i .non := by
      have := hv xs (s.seq h)
      rw [List.getD_eq_getElem?_getD, this]
      rfl
    subst e
    exact ⟨p, _, rfl, SqT.of upd_same, rfl, _, _, rfl, _, _, rfl, rfl, k _ (same_new hp)⟩
  kp := fun i hi => ((Kp.refl _).set h0).set h1
end
end L2
namespace L2
open PySem PySem.Spec PyProof.Rows
section
variable {X : Cx} {tg : Expr}
end
end L2
namespace L2
open PySem PySem.Spec PyProof.Rows
end L2
namespace L2
open PySem PySem.Spec PyProof.Rows
section
variable {X : Cx} {K : PySem.W.Frag} {e st : Expr} {te ts : TE} {pos p2 : Pos}
end
end L2
namespace MM
theorem snoc_ind {α : Type} {p : List α → Prop} (h0 : p []) (h1 : ∀ l a, p l → p (l ++ [a])) : ∀ l, p l := fun l => by
  have h : ∀ r : List α, p r.reverse := fun r => by
    induction r with
    | nil => exact h0
    | cons a r ih => rw [List.reverse_cons]; exact h1 _ _ ih
  have := h l.reverse
  rwa [List.reverse_reverse] at this
theorem or_add_and (a : Nat) : ∀ b : Nat, (a ||| b) + (a &&& b) = a + b := by
  induction a using Nat.strongRecOn with
  | ind a ih =>
    intro b
    by_cases h : a = 0
    · subst h; simp
    · have ih' := ih (a / 2) (by omega) (b / 2)
      have e1 : (a ||| b) = 2 * ((a ||| b) / 2) + (a ||| b) % 2 := by omega
      have e2 : (a &&& b) = 2 * ((a &&& b) / 2) + (a &&& b) % 2 := by omega
      have d1 : (a ||| b) / 2 = a / 2 ||| b / 2 := by simpa using Nat.or_div_two (a := a) (b := b)
      have d2 : (a &&& b) / 2 = a / 2 &&& b / 2 := by simpa using Nat.and_div_two (a := a) (b := b)
      have m1 : (a ||| b) % 2 + (a &&& b) % 2 = a % 2 + b % 2 := by
        have z : ∀ x : Nat, x % 2 = (x.testBit 0).toNat := fun x => by rw [Nat.toNat_testBit]; simp
        rw [z (a ||| b), z (a &&& b), z a, z b, Nat.testBit_or, Nat.testBit_and]
        cases a.testBit 0 <;> cases b.testBit 0 <;> rfl
      rw [d1] at e1
      rw [d2] at e2
      omega
noncomputable def uOf (ms : List Nat) : Nat := ms.foldl (fun m n => m ||| n) 0
theorem uOf_snoc (ns : List Nat) (n : Nat) : uOf (ns ++ [n]) = uOf ns ||| n := by unfold uOf; rw [List.foldl_append]; rfl
theorem uOf_bit (ns : List Nat) (i : Nat) : (uOf ns).testBit i = ns.any fun n => n.testBit i := by
  refine snoc_ind (p := fun ns => (uOf ns).testBit i = ns.any fun n => n.testBit i) (by simp [uOf]) (fun l a ih => ?_) ns
  rw [uOf_snoc, Nat.testBit_or, ih, List.any_append]; simp
end MM
namespace L2
open PySem PySem.Spec PyProof.Rows
section
variable {X : Cx}
theorem is_kV {P : Program} {w : World} {k : Key} {u : Value} (h : (mixKind P w).is k u = true) : RelV (kV k) u := by
  cases k with
  | inl i => obtain ⟨t, e⟩ := Value.isInt_shape (show u.isInt i = true from h); exact ⟨t, e⟩
  | inr z => obtain ⟨t, e⟩ := Value.isStrOf_shape (show u.isStrOf z = true from h); exact ⟨t, e⟩
theorem kv_get {κ : Type} : ∀ {kvs : List (κ × V)} {vs : List (κ × Value)}, KV kvs vs → ∀ (j : Nat) (k : κ) (x : Value), vs[j]? = some (k, x) → ∃ v, kvs[j]? = some (k, v)
  | _, _, .nil, j, k, x, h => by simp at h
  | p :: _, _, .cons h t, 0, k, x, e => by
    simp only [List.getElem?_cons_zero, Option.some.injEq] at e
    subst e
    exact ⟨p.2, by rw [List.getElem?_cons_zero]; congr 1; exact Prod.ext h.1 rfl⟩
  | _, _, .cons h t, j + 1, k, x, e => by
    rw [List.getElem?_cons_succ] at e ⊢
    exact kv_get t j k x e
theorem vals_at : ∀ {xs : List V} {us : List Value}, us.length = xs.length → (∀ (j : Nat) (u : Value), us[j]? = some u → ∃ x, xs[j]? = some x ∧ RelV x u) → Vals xs us
  | [], [], _, _ => .nil
  | x :: xs, u :: us, hl, h => by
    obtain ⟨y, e, r⟩ := h 0 u rfl
    simp only [List.getElem?_cons_zero, Option.some.injEq] at e
    subst e
    exact .cons r (vals_at (by simpa using hl) fun j v hv => by simpa using h (j + 1) v (by simpa using hv))
  | [], _ :: _, hl, _ => by simp at hl
  | _ :: _, [], hl, _ => by simp at hl
noncomputable def rListD (xs : List V) (H : Hp) (Q : VK) : Prop := ∃ a kvs, xs = [V.ref a] ∧ H a = some (.dK kvs) ∧ ∀ l, H l = none → Q (.ref l) (upd H l (.lst (kvs.map fun kv => kV kv.1)))
theorem call_listD (hc : X.calm = true) : CallR X (.type "list") rListD := by
  intro pins s σ H xs us Q I r h
  obtain ⟨a, kvs, rfl, ha, q⟩ := h
  obtain ⟨u, rfl, ru⟩ := vals1 r
  cases ru
  obtain ⟨z, hd, vs, rel, dd⟩ := dk_of I.hok ha
  obtain ⟨ep, hat⟩ := dd.dictAt
  have hl := Paired.length rel
  refine PySem.W.kdl_call (PySem.W.kdl_dict (knd := mixKind X.prog X.w) (kvs := vs) (ep := ep) hd) (I.ok.hd hc) hat (by omega) fun h' tk acc c hk hS hacc => ?_
  refine ⟨.ref s.heap.objs.size, _, I.laid (a := s.heap.objs.size) (o := .lst (kvs.map fun kv => kV kv.1)) (h' := h') (t' := tk) hk (Nat.le_refl _) ⟨by simpa using z, acc.toList, c, ?_, by simpa using hS⟩, rfl, q _ (I.hok.fresh (Nat.le_refl _))⟩
  refine vals_at (by rw [List.length_map, Array.length_toList, hacc.1]; omega) fun j u hu => ?_
  obtain ⟨k, x, e, hk⟩ := hacc.2 j u (by rw [← Array.getElem?_toList]; exact hu)
  obtain ⟨v, e'⟩ := kv_get rel j k x e
  exact ⟨kV k, by rw [List.getElem?_map, e']; rfl, is_kV hk⟩
end
section
variable {H : Hp} {Q : VK} {σ : St} {td ty tv : TE} {D : Ends} {a : Addr} {kvs : List (Key × V)}
theorem rd_listD (ha : H a = some (.dK kvs)) (h : ∀ l, H l = none → Q (.ref l) (upd H l (.lst (kvs.map fun kv => kV kv.1)))) : rListD [.ref a] H Q := ⟨a, kvs, rfl, ha, h⟩
theorem rd_dnotin (h : ty σ H fun y H1 => td σ H1 fun x H2 => ∃ a o, x = .ref a ∧ DGet H2 a y o ∧ Q (.bl (!o.isSome)) H2) : tDNotIn ty td σ H Q := h
theorem rd_dput (h : tv σ H fun v H1 => td σ H1 fun x H2 => ty σ H2 fun y H3 => ∃ a H4, x = .ref a ∧ DPut H3 a y v H4 ∧ D.nx σ H4) : sDPut td ty tv D σ H := h
theorem rd_disp {trs : List (TE × TE)} (h : ∀ p, H p = none → tPairs trs σ (upd H p (.dK [])) fun ps H2 => H2 p = some (.dK []) ∧ ∃ kvs : List (Key × V), ps = kvs.map (fun kv => (kV kv.1, kv.2)) ∧ kvs.length ≤ 15 ∧ Q (.ref p) (upd H2 p (.dK (mergeK [] kvs)))) : tDisp trs σ H Q := h
theorem rd_pnil {R : List (V × V) → Hp → Prop} (h : R [] H) : tPairs [] σ H R := h
theorem rd_pcons {tk tw : TE} {r : List (TE × TE)} {R : List (V × V) → Hp → Prop} (h : tk σ H fun x H1 => tw σ H1 fun y H2 => tPairs r σ H2 fun ps H3 => R ((x, y) :: ps) H3) : tPairs ((tk, tw) :: r) σ H R := h
end
theorem Room.units1 {k : Nat} {A : Around} (r : Room k A) : A.units + 1 < cLine := by have := r.un; omega
section
variable {H : Hp} {Q : VK} {σ : St} {K : PySem.W.Frag} {to : TE} {t : TA} {r : V → List V → Hp → VK → Prop} {T : String} {l p q : Addr} {xs ys : List V} {y : V}
theorem rd_bm (h : to σ H fun x H1 => tyV K T x H1 ∧ t σ H1 fun xs H2 => r x xs H2 Q) : tBM K T r to t σ H Q := h
theorem tyL {B : Prop} (c : SqL K H l xs) (h : B) : tyV K "list" (.ref l) H ∧ B := ⟨.inl ⟨rfl, xs, c⟩, h⟩
theorem rd_app (c : H l = some (.lst xs)) (b : xs.length < 16777216) (h : Q .non (upd H l (.lst (xs ++ [y])))) : rAppend (.ref l) [y] H Q := ⟨l, xs, y, rfl, rfl, c, by rw [sizeLine_eq]; exact b, h⟩
theorem rd_cat (c : SqL K H l xs) (d : SqL K H p ys) (b : xs.length + ys.length ≤ 16777216) (h : ∀ q, H q = none → Q (.ref q) (upd H q (.lst (xs ++ ys)))) : rCatS K (.ref l) (.ref p) H Q := ⟨l, p, xs, ys, rfl, rfl, c, d, by rw [sizeLine_eq]; exact b, h⟩
theorem rd_neLI {as bs : List Int} (c : SqL K H l (as.map V.int)) (d : SqL K H p (bs.map V.int)) (h : Q (.bl (!decide (as = bs))) H) : rEqL K true (.ref l) (.ref p) H Q :=
  ⟨l, p, _, _, rfl, rfl, c, d, flat_int as, flat_int bs, by rw [eqVs_int]; exact h⟩
end
end L2
namespace L2
open PySem
open Sem (wp)
open AutoSeq1 (wpAny_loadPart')
section
variable {prog : Program} {w : World} {A : Around} {E : Value → Shared → Prop} {s : Shared}
theorem typeCall_kw {T newId : String} {Bn : Builtin} {v : Value} {x : Str} {u : Value} {Q : Value → Shared → Prop} (ft : TypeCalled T newId "object.__init__") (hne : (some newId != some "object.__new__") = true)
    (hct : checkTypeCall T ⟨[v], [(x, u)]⟩ = pure ()) (hcn : checkBuiltinCall newId ⟨[.type T, v], [(x, u)]⟩ = pure ()) (hok : ∀ obj, argsOk "object.__init__" ⟨[obj, v], [(x, u)]⟩) (entryN : entryFor table newId = some Bn)
    (g : wpAny (model prog w) A.in1.in1 (Bn ⟨[.type T, v], [(x, u)]⟩) (fun fin s1 => ∃ obj, fin = .done (.ret obj) ∧ s1.TypeIs obj T ∧ Q obj s1) E s) : wpAny (model prog w) A (call (.type T) [v] [(x, u)]) Q E s := by
  obtain ⟨c, tl, hmro⟩ := ft.mro
  have hmade := ft.made
  have hsub := ft.sub
  refine wpAny_call (codeAny_of_tree ?_)
  show wpAny _ _ (callAny (.type T) _) _ _ _
  refine wpAny_pure ⟨Code.quiet_builtin _ (by decide +kernel), codeAny_builtin F.entry_type_call ?_⟩
  rw [Around.under_plain (weight_type_call_type T [v] [(x, u)]) (units_type_call_type T [v] [(x, u)])]
  have h1 := ft.notType
  have h2 := ft.canCreate
  repeat (any_goals (first | assumption | wp_step))
  refine codeAny_call_builtin ft.plain entryN (wpAny_of_eq hcn (wpAny_mono g (fun fin s1 q => ?_) fun _ _ q => q))
  obtain ⟨obj, rfl, hT, q⟩ := q
  have hli := ft.init.lookup
  have hbi := ft.init.bind obj
  show wpAny _ _ _ _ _ _
  repeat (any_goals (first | assumption | wp_step))
  refine codeAny_call_builtin ft.init.plain F.entry_object_init (ft.init.check _ _ _ _ _ _ _ _ hT (hok obj) ?_)
  repeat (any_goals (first | assumption | wp_step))
  trace_state
theorem new_enum_kw {v : Value} {t : Tok} {Q : Value → Shared → Prop}
    (h : wpAny (model prog w) A (pyIter v) (fun itv s1 => Q (.ref s1.heap.objs.size) { s1 with heap := s1.heap.push { cls := .type "enumerate", data := .fields #[.none, .bool false, itv, rawInt 1, .none, .none] } }) E s) :
    wpAny (model prog w) A (Builtin.«enumerate.__new__» ⟨[.type "enumerate", v], [("start", .int 1 t)]⟩) (fun fin s1 => ∃ obj, fin = .done (.ret obj) ∧ Q obj s1) E s := by
  have hsub := sub_enumerate
  have hit : ∀ {R : Value → Shared → Prop}, (∀ itv s1, Q (.ref s1.heap.objs.size) { s1 with heap := s1.heap.push { cls := .type "enumerate", data := .fields #[.none, .bool false, itv, rawInt 1, .none, .none] } } → R itv s1) → wpAny (model prog w) A (pyIter v) R E s := fun k => wpAny_mono h k fun _ _ q => q
  unfold Builtin.«enumerate.__new__»
  wp_walk
  refine wpAny_stack_any fun st => wpAny_pure ?_
  split
  · rename_i c _ _ _ _ _
    cases (c == Value.type "enumerate")
    · wp_walk using hit
      intro itv s1 q
      wp_walk
      exact ⟨_, rfl, q⟩
    · wp_walk using hit
      intro itv s1 q
      wp_walk
      exact ⟨_, rfl, q⟩
  · wp_walk using hit
    intro itv s1 q
    wp_walk
    exact ⟨_, rfl, q⟩
theorem call_enumS {v : Value} {t : Tok} {Q : Value → Shared → Prop}
    (h : wpAny (model prog w) A.in1.in1 (pyIter v) (fun itv s1 => ∃ it, itv = .ref it ∧ ∀ h', IsEnum h' s1.heap.objs.size it 1 .none → (∀ b o, s1.heap.get? b = some o → h'.get? b = some o) → h'.objs.size = s1.heap.objs.size + 1 → Q (.ref s1.heap.objs.size) { s1 with heap := h' }) E s) :
    wpAny (model prog w) A (call (.type "enumerate") [v] [("start", .int 1 t)]) Q E s := by
  refine typeCall_kw F.called_enumerate (by decide) (by kernel_rfl) (by kernel_rfl) (fun obj => by unfold argsOk; kernel_rfl) F.entry_enumerate_new (new_enum_kw (wpAny_mono h (fun itv s1 q => ?_) fun _ _ q => q))
  obtain ⟨it, rfl, q⟩ := q
  refine ⟨⟨_, Heap.get?_push_size _ rfl, rfl⟩, q _ (Heap.get?_push_size _ rfl) (fun b o e => Heap.get?_push_of_some _ e) (Heap.size_push ..)⟩
end
theorem shiftD {prog : Program} {w : World} {A : Around} {it : Addr} {fp : List Addr} {n : Nat} {Pv : Nat → Value → Prop} {St : Nat → Heap → Prop} (k : Nat) (D : Draws prog w A it fp n Pv St) :
    Draws prog w A it fp (n + k) (fun i v => ∃ j, i = j + k ∧ Pv j v) (fun i h => ∃ j, i = j + k ∧ St j h) where
  live := fun i h ⟨j, _, st⟩ => D.live j h st
  frame := fun i h h' ⟨j, e, st⟩ q => ⟨j, e, D.frame j h h' st q⟩
  item := fun i s Q E hi ⟨j, e, st⟩ hQ => D.item j s Q E (by omega) st fun x h' tk p st' sb => hQ x h' tk ⟨j, e, p⟩ ⟨j + 1, by omega, st'⟩ sb
  done := fun s Q E ⟨j, e, st⟩ hE => D.done s Q E (by
    have q : j = n := by omega
    rw [q] at st
    exact st) hE
theorem kwCall_type {M : Model} {A : Around} {E : Value → Shared → Prop} {s : Shared} {pos : Pos} {T : String} {args : List (Bool × Sem Value)} {kws : List (Option Str × Sem Value)} {Q : Value → Shared → Prop}
    (hp : args.any (·.1) = false) (hk : kws.any (·.1.isNone) = false) (h : wpAny M A (evalArgs (.type T) true args kws) (fun a s1 => wpAny M A (call (.type T) a.pos a.kw) Q E s1) E s) : wpAny M A (callWith pos (.type T) [] args kws) Q E s := by
  unfold callWith
  refine wpAny_bind (wpAny_holding (wpAny_mono h (fun a s1 h1 => wpAny_bind (wpAny_standAt ?_)) fun _ _ q => q))
  simp only [hp, hk, Bool.or_false]
  refine wpAny_bind (wpAny_pure ?_)
  refine wpAny_bind (wpAny_mono h1 (fun r s2 hr => ?_) fun _ _ q => q)
  exact wpAny_bind (wpAny_holding (wpAny_point (wpAny_pure hr)))
end L2
namespace L2
open PySem PySem.Spec PyProof.Rows
theorem drawsS {prog : Program} {w : World} {A : Around} (hh : A.handled = none) (tp : Bool) (it l : Addr) (hne : l ≠ it) (items : Array Value) :
    Draws prog w A it [it, l] items.size (fun i v => items[i]? = some v) (fun i h => SrcIt tp h it l i ∧ SrcSq tp h l items) where
  live := fun _ _ st => let ⟨o, e, _⟩ := srcIt_obj st.1; ⟨o, e⟩
  frame := fun _ _ _ st hk => ⟨srcIt_at st.1 fun o e => hk it (by simp) o e, srcSq_at st.2 fun o e => hk l (by simp) o e⟩
  item := fun i s Q E hi st hQ => src_item st.1 st.2 (x := items[i]) (by simp [hi]) fun h' hit sb => hQ _ h' s.toks (by simp [hi]) ⟨hit, srcSq_at st.2 fun o e => (sb.2 l hne).trans e⟩ sb
  done := fun s Q E st hE => src_end hh st.1 st.2 (by simp) hE
noncomputable def IteS (tp : Bool) (K : PySem.W.Frag) (a : Addr) : It :=
  ⟨fun i H => ∃ xs x, SqS tp K H a xs ∧ xs[i]? = some x, fun i H v H' => ∃ p x, H p = none ∧ v = .ref p ∧ H' = upd H p (.tup [.int ((i + 1 : Nat) : Int), x]) ∧ ∀ xs, SqS tp K H a xs → xs[i]? = some x, fun i H => ∃ xs, SqS tp K H a xs ∧ xs.length ≤ i⟩
theorem turn_enumS {P : Program} {w : World} {K : PySem.W.Frag} {elts : List Expr} {k : Nat} {pos : Pos} (tp : Bool) (a e it : Addr) (hne : e ≠ it) :
    Turn P w K (.Tuple elts k pos) (IteS tp K a) [e, it] e (fun i h => (∃ old, IsEnum h e it ((i + 1 : Nat) : Int) old) ∧ SrcIt tp h it a i) where
  mem := by simp
  obj := fun i h st b hb => by
    obtain ⟨⟨old, he⟩, hi⟩ := st
    obtain ⟨o, eo, d⟩ := srcIt_obj hi
    rcases List.mem_cons.mp hb with z | z
    · subst z
      exact ⟨_, he, fun v z => by cases (show Data.fields _ = Data.cell v from z)⟩
    · have z : b = it := by simpa using z
      subst z
      exact ⟨o, eo, fun v z => by rw [d] at z; cases z⟩
  keep := fun i h h' st kp => by
    obtain ⟨⟨old, he⟩, hi⟩ := st
    exact ⟨⟨old, kp e (by simp) _ he⟩, srcIt_at hi fun o z => kp it (by simp) o z⟩
  item := by
    intro X hP hw hK hc i pins s σ H E I hf st hg
    subst hP hw hK
    obtain ⟨xs, x, hq, hx⟩ := hg
    obtain ⟨its, rv, p⟩ := sqS_src I hq
    obtain ⟨u, hu, ru⟩ := rv.get hx
    obtain ⟨⟨old, he⟩, hi⟩ := st
    obtain ⟨oi, ei, di⟩ := srcIt_obj hi
    obtain ⟨oa, na, ea, da⟩ := srcSq_obj p
    have hel : e < s.heap.objs.size := Heap.lt_size he
    have hil : it < s.heap.objs.size := Heap.lt_size ei
    have nia : a ≠ it := fun z => by
      subst z
      rw [ei] at ea
      cases ea
      rw [di] at da
      cases da
    have nea : e ≠ a := fun z => by
      subst z
      rw [show s.heap.get? e = _ from he] at ea
      cases ea
      cases (show Data.fields _ = Data.seq _ _ from da)
    have hlt : i < its.toArray.size := by
      have := (List.getElem?_eq_some_iff.mp hu).1
      simpa using this
    have D := shiftD 1 (drawsS (prog := X.prog) (w := X.w) (A := X.A.in1) (I.ok.hd hc) tp it a nia its.toArray)
    refine wpAny_pyNext_enum_itemD (i := i + 1) D he ⟨i, rfl, hi, p⟩ (by omega) hne (by simp [hne, nea]) fun v h' tk pv ho st' hT hsz hk => ?_
    obtain ⟨j, ej, ev⟩ := pv
    obtain ⟨j2, ej2, hi', p'⟩ := st'
    have ej : j = i := by omega
    have ej2 : j2 = i + 1 := by omega
    subst ej ej2
    have ev : v = u := by
      rw [show its.toArray[j]? = some u by simpa using hu] at ev
      exact (Option.some.inj ev).symm
    subst ev
    have I0 := I.laid (h' := s.heap.push { cls := .type "tuple", data := .seq #[.int ((j + 1 : Nat) : Int) tk, v] }) (a := s.heap.objs.size) (o := .tup [.int ((j + 1 : Nat) : Int), x]) (t' := tk + 1) (fun _ _ q => Heap.get?_push_of_some _ q) (Nat.le_refl _)
      ⟨(by show 2 ≤ sizeLine; decide), [.int ((j + 1 : Nat) : Int) tk, v], .cons ⟨_, rfl⟩ (.cons ru .nil), ⟨_, Heap.get?_push_size _ rfl, rfl, _, rfl⟩⟩
    have f0 : ∀ b ∈ [e, it], FpOk X pins (upd H s.heap.objs.size (.tup [.int ((j + 1 : Nat) : Int), x])) b := fun b hb => fp_upd (hf b hb) (by
      rcases List.mem_cons.mp hb with z | z
      · rw [z]; exact Nat.ne_of_lt hel
      · rw [show b = it by simpa using z]; exact Nat.ne_of_lt hil)
    have I1 := Inv.turnedL (t' := tk + 1) (h' := h') [e, it] I0 f0 (fun b o hb z => by
      have hb1 : b ≠ e := fun q => hb (by simp [q])
      have hb2 : b ≠ it := fun q => hb (by simp [q])
      rcases Heap.get?_push_cases (show (s.heap.push { cls := .type "tuple", data := .seq #[.int ((j + 1 : Nat) : Int) tk, v] }).get? b = some o from z) with ⟨q1, q2⟩ | q
      · rw [q1, q2]; exact hT
      · exact hk b o hb1 hb2 q)
    refine ⟨.ref s.heap.objs.size, rfl, wpAny_letOwnedTupleGo_enum (s := { s with heap := h', toks := tk + 1 }) ho fun h2 he2 sb => ?_⟩
    exact ⟨.ref s.heap.objs.size, _, Inv.turnedL (t' := tk + 1) (h' := h2) [e, it] I1 f0 (fun b o hb z => (sb.2 b fun q => hb (by simp [q])).trans z), rfl, ⟨_, x, I.fresh, rfl, rfl, fun ys hy => by rw [sqS_inj I hy hq]; exact hx⟩,
      ⟨⟨v, by simpa using he2⟩, srcIt_at hi' fun o z => (sb.2 it hne.symm).trans z⟩, fun b hb => (f0 b hb).1⟩
  done := by
    intro X hP hw hK hc i pins s σ H E I hf st hg
    subst hP hw hK
    obtain ⟨xs, hq, hx⟩ := hg
    obtain ⟨its, rv, p⟩ := sqS_src I hq
    obtain ⟨⟨old, he⟩, hi⟩ := st
    obtain ⟨oi, ei, di⟩ := srcIt_obj hi
    obtain ⟨oa, na, ea, da⟩ := srcSq_obj p
    have hT : s.TypeIs (.ref e) "enumerate" := ⟨_, he, rfl⟩
    have hl := rv.length
    unfold pyNext
    refine wpAny_bind (wpAny_attempt (wpAny_callSpecial?_slot (name := Str.ofString "__next__") hT F.slot_enumerate_next (wpAny_call_entry F.slot_enumerate_next hT F.entry_enumerate_next ?_ (F.args_enumerate_next_1 _))))
    show wpAny _ _ (field (.ref e) 2 >>= _) _ _ _
    refine wpAny_bind (wpAny_field he rfl (x := .ref it) rfl ?_)
    refine wpAny_bind (src_end (A := X.A.in1) (I.ok.hd hc) hi p (by simp; omega) fun h' x eb hx' => ?_)
    obtain ⟨o, ho, hc2⟩ := hx'
    exact wpAny_bind (wpAny_isInstance (T := "StopIteration") (b := true) ⟨o, ho, hc2⟩ isSubtype_stop (wpAny_pure ⟨rfl, I.turnedL (t' := s.toks) [e, it] hf fun b o hb z => eb b o (fun q => hb (by simp [q])) z⟩))
  self := fun _ _ _ _ _ st h => by
    obtain ⟨⟨old, he⟩, _⟩ := st
    exact wpAny_pyIter_enum he h
section
variable {X : Cx} {elts : List Expr} {k : Nat} {tpos : Pos} {K : PySem.W.Frag}
noncomputable def iEnumS (K : PySem.W.Frag) (ta : TA) : TI := fun σ H R => ta σ H fun vs H1 => ∃ tp a, vs = [.ref a] ∧ (∃ xs, SqS tp K H1 a xs) ∧ R (IteS tp K a) H1
theorem pi_enumS {l : Expr} {ta : TA} {p pos kp cp : Pos} {cj : Nat} (hg : Gl X "enumerate") (hm : X.mg "enumerate" = none) (ha : PA X [l] ta) (hK : X.K = K := by rfl) (hs : starEach [l] X.env = [(false, eval l X.env)] := by rfl) :
    PI X (.Tuple elts k tpos) (.Call (.Name "enumerate" p) [l] [⟨some "start", .Constant (.int 1) cj cp, kp⟩] pos) (iEnumS K ta) := by
  subst hK
  intro pins s σ H R I h
  refine wpAny_Call_Name_kw (ld_blt I hg hm boot_enum (kwCall_type (by rw [hs]; rfl) rfl (PyProof.Rows.evalArgs_kw2 rfl ?_ (by rw [hs]; rfl))))
  refine thn (ha pos pins s σ H _ I h) fun us s1 ⟨vs, H1, I1, r1, q1⟩ => PyProof.Rows.kwAll_cons ?_
  refine pe_int pins s1 σ H1 (fun v H2 => v = .int 1 ∧ H2 = H1) I1 ⟨rfl, rfl⟩ |> fun z => thn z fun u s2 ⟨v, H2, I2, r2, ev, eh⟩ => ?_
  subst ev eh
  obtain ⟨t, rfl⟩ := r2
  refine PyProof.Rows.kwAll_nil ?_
  obtain ⟨tp, a, e, ⟨xs, hq⟩, q⟩ := q1
  subst e
  cases r1 with
  | cons r rr =>
    cases rr
    cases r
    obtain ⟨its, rv, pl⟩ := sqS_src I2 hq
    refine call_enumS ?_
    refine src_iter pl ⟨_, rfl, fun h' he hk hsz => ?_⟩
    refine wpAny_pyIter_enum he ?_
    have hz : (s2.heap.push { cls := .type (srcTy tp), data := .fields #[.ref a, .int 0 0] }).objs.size = s2.heap.objs.size + 1 := Heap.size_push ..
    have hk2 : ∀ b o, s2.heap.get? b = some o → h'.get? b = some o := fun b o z => hk b o (Heap.get?_push_of_some _ z)
    have I3 := I2.kept (t' := s2.toks) hk2
    have st : SrcIt tp h' s2.heap.objs.size a 0 := srcIt_at srcIt_new fun o z => hk _ o z
    refine ⟨_, [_, s2.heap.objs.size], _, _, H2, rfl, I3, turn_enumS tp a _ _ (by rw [hz]; exact Nat.succ_ne_self _), ⟨⟨_, he⟩, st⟩, fun b hb => ?_, q⟩
    have hb' : s2.heap.objs.size ≤ b := by
      rcases List.mem_cons.mp hb with z | z
      · rw [z, hz]; exact Nat.le_succ _
      · have z : b = s2.heap.objs.size := by simpa using z
        rw [z]; exact Nat.le_refl _
    exact I2.fpOk hb' (I2.hok.fresh hb')
end
noncomputable def Isq (tp : Bool) (K : PySem.W.Frag) (a : Addr) : It := if tp = true then Itt K a else Itl K a
section
variable {X : Cx} {tg : Expr} {K : PySem.W.Frag}
noncomputable def iSq (K : PySem.W.Frag) (tl : TE) : TI := fun σ H R => tl σ H fun x H1 => ∃ tp a, x = .ref a ∧ (∃ xs, SqS tp K H1 a xs) ∧ R (Isq tp K a) H1
theorem pi_sq {l : Expr} {tl : TE} (hl : PE X l tl) (hK : X.K = K := by rfl) : PI X tg l (iSq K tl) := by
  subst hK
  intro pins s σ H R I h
  refine thn (hl pins s σ H _ I h) fun v s1 ⟨x, H1, I1, r1, q1⟩ => ?_
  obtain ⟨tp, a, e, ⟨xs, hq⟩, q⟩ := q1
  subst e
  cases r1
  cases tp with
  | false =>
    obtain ⟨its, rv, p, hz⟩ := I1.list (show SqL X.K H1 a xs from hq)
    refine wpAny_pyIter_list p.isList ?_
    refine ⟨s1.heap.objs.size, [s1.heap.objs.size], _, _, H1, rfl, I1.kept (t' := s1.toks) fun b o e => Heap.get?_push_of_some _ e, turn_list a _, ⟨_, Heap.get?_push_size _ rfl, rfl, rfl⟩, fun b hb => ?_, q⟩
    have e : b = s1.heap.objs.size := by simpa using hb
    subst e
    exact I1.fpOk (Nat.le_refl _) (I1.hok.fresh (Nat.le_refl _))
  | true =>
    obtain ⟨its, rv, p, hz⟩ := I1.tuple (show SqT X.K H1 a xs from hq)
    refine wpAny_pyIter_tuple (show s1.heap.IsTuple a its.toArray from p) ?_
    refine ⟨s1.heap.objs.size, [s1.heap.objs.size], _, _, H1, rfl, I1.kept (t' := s1.toks) fun b o e => Heap.get?_push_of_some _ e, turn_tuple a _, ⟨_, Heap.get?_push_size _ rfl, rfl, rfl⟩, fun b hb => ?_, q⟩
    have e : b = s1.heap.objs.size := by simpa using hb
    subst e
    exact I1.fpOk (Nat.le_refl _) (I1.hok.fresh (Nat.le_refl _))
end
structure FSrc (J : It) (g : TG) (H : Hp) (n : Nat) (set : Nat → St → St) : Prop where
  go : ∀ i H', i < n → Same H H' → J.go i H'
  stop : ∀ H', Same H H' → J.stop n H'
  yld : ∀ i σ H' x H'' (R : St → Hp → Prop), i < n → Same H H' → J.yld i H' x H'' → (∀ H3, Same H' H3 → R (set i σ) H3) → g x σ H'' R
theorem for_src {J : It} {g : TG} {H : Hp} {n : Nat} {set : Nat → St → St} {tb : TS} {D : Ends} {σ : St} (S : FSrc J g H n set) (Pv : Nat → St → Hp → Prop) (h0 : Pv 0 σ H) (hk : ∀ i σ H', Pv i σ H' → Same H H')
    (hs : ∀ i σ H' H3, i < n → Pv i σ H' → Same H' H3 → tb { D with nx := Pv (i + 1), ct := Pv (i + 1), bk := D.nx } (set i σ) H3) (hd : ∀ σ H', Pv n σ H' → D.nx σ H') :
    ∃ W : Nat → Nat → St → Hp → Prop, (∃ m, W 0 m σ H) ∧ ∀ i m σ H, W i m σ H →
      (J.stop i H ∧ D.nx σ H) ∨ (J.go i H ∧ ∃ N : St → Hp → Prop, (∀ σ' H', N σ' H' → ∃ m', m' < m ∧ W (i + 1) m' σ' H') ∧ ∀ x H', J.yld i H x H' → g x σ H' fun σ2 H2 => tb { D with nx := N, ct := N, bk := D.nx } σ2 H2) := by
  refine ⟨fun i m σ H' => m = n - i ∧ i ≤ n ∧ Pv i σ H', ⟨n, by simp, Nat.zero_le _, h0⟩, ?_⟩
  rintro i m σ H1 ⟨rfl, hi, p⟩
  by_cases hlt : i < n
  · exact .inr ⟨S.go i H1 hlt (hk _ _ _ p), Pv (i + 1), fun σ' H' p' => ⟨n - (i + 1), by omega, rfl, hlt, p'⟩, fun x H' y => S.yld i σ H1 x H' _ hlt (hk _ _ _ p) y fun H3 s3 => hs i σ H1 H3 hlt p s3⟩
  · have e : i = n := by omega
    subst e
    exact .inl ⟨S.stop H1 (hk _ _ _ p), hd σ H1 p⟩
section
variable {K : PySem.W.Frag} {H : Hp} {a b : Addr} {xs zs : List V} {tp t1 t2 : Bool} {i1 i2 : Nat}
theorem fs_sq (h : SqS tp K H a xs) : FSrc (Isq tp K a) (gName i1) H xs.length (fun i σ => σ.set i1 (some (xs.getD i .non))) := by
  cases tp with
  | false => exact {
      go := fun i H' hi s => ⟨xs, xs[i], SqS.same (tp := false) h s, by simp [hi]⟩
      stop := fun H' s => ⟨xs, SqS.same (tp := false) h s, Nat.le_refl _⟩
      yld := fun i σ H' x H'' R hi s y k => by
        obtain ⟨e, hv⟩ := y
        subst e
        have e : x = xs.getD i .non := by
          rw [List.getD_eq_getElem?_getD, hv xs (SqS.same (tp := false) h s)]
          rfl
        subst e
        exact k _ (Same.refl _) }
  | true => exact {
      go := fun i H' hi s => ⟨xs, xs[i], SqS.same (tp := true) h s, by simp [hi]⟩
      stop := fun H' s => ⟨xs, SqS.same (tp := true) h s, Nat.le_refl _⟩
      yld := fun i σ H' x H'' R hi s y k => by
        obtain ⟨e, hv⟩ := y
        subst e
        have e : x = xs.getD i .non := by
          rw [List.getD_eq_getElem?_getD, hv xs (SqS.same (tp := true) h s)]
          rfl
        subst e
        exact k _ (Same.refl _) }
theorem fs_list (h : SqL K H a xs) : FSrc (Itl K a) (gName i1) H xs.length (fun i σ => σ.set i1 (some (xs.getD i .non))) := fs_sq (tp := false) h
theorem fs_range {lo : Int} {n : Nat} : FSrc (Itr lo n) (gName i1) H n (fun i σ => σ.set i1 (some (.int (lo + i)))) where
  go := fun i H' hi s => hi
  stop := fun H' s => Nat.le_refl _
  yld := fun i σ H' x H'' R hi s y k => by
    obtain ⟨e, hv⟩ := y
    subst e hv
    exact k _ (Same.refl _)
theorem fs_enumS (h : SqS tp K H a xs) : FSrc (IteS tp K a) (gTup K 2 (gCons (gName i1) (gCons (gName i2) gNil))) H xs.length (fun i σ => (σ.set i1 (some (.int ((i + 1 : Nat) : Int)))).set i2 (some (xs.getD i .non))) where
  go := fun i H' hi s => ⟨xs, xs[i], h.same s, by simp [hi]⟩
  stop := fun H' s => ⟨xs, h.same s, Nat.le_refl _⟩
  yld := fun i σ H' x H'' R hi s y k => by
    obtain ⟨p, v, hp, rfl, rfl, hv⟩ := y
    have e : v = xs.getD i .non := by
      rw [List.getD_eq_getElem?_getD, hv xs (h.same s)]
      rfl
    subst e
    exact ⟨p, _, rfl, SqT.of upd_same, rfl, _, _, rfl, _, _, rfl, rfl, k _ (same_new hp)⟩
theorem fs_enum (h : SqL K H a xs) : FSrc (Ite K a) (gTup K 2 (gCons (gName i1) (gCons (gName i2) gNil))) H xs.length (fun i σ => (σ.set i1 (some (.int i))).set i2 (some (xs.getD i .non))) where
  go := fun i H' hi s => ⟨xs, xs[i], s.seq h, by simp [hi]⟩
  stop := fun H' s => ⟨xs, s.seq h, Nat.le_refl _⟩
  yld := fun i σ H' x H'' R hi s y k => by
    obtain ⟨p, v, hp, rfl, rfl, hv⟩ := y
    have e : v = xs.getD i .non := by
      rw [List.getD_eq_getElem?_getD, hv xs (s.seq h)]
      rfl
    subst e
    exact ⟨p, _, rfl, SqT.of upd_same, rfl, _, _, rfl, _, _, rfl, rfl, k _ (same_new hp)⟩
theorem FSrc.src {J : It} {g : TG} {n : Nat} {set : Nat → St → St} {σ0 : St} (S : FSrc J g H n set) (kp : ∀ i, i < n → Kp σ0 (set i σ0)) : SrcOk J g σ0 H n (fun i => set i σ0) where
  go := S.go
  stop := S.stop
  yld := fun i H' x H'' R hi s y k => S.yld i σ0 H' x H'' R hi s y k
  kp := kp
theorem src_enumS {σ0 : St} (h : SqS tp K H a xs) (h0 : σ0[0]? = some none) (h1 : σ0[1]? = some none) : SrcOk (IteS tp K a) (gTup K 2 (gCons (gName 0) (gCons (gName 1) gNil))) σ0 H xs.length (fun i => (σ0.set 0 (some (.int ((i + 1 : Nat) : Int)))).set 1 (some (xs.getD i .non))) :=
  (fs_enumS h).src fun i _ => ((Kp.refl _).set h0).set h1
end
end L2
namespace L2
open PySem PySem.Spec PyProof.Rows
theorem bA (a b : Nat) : Builtin.bitAnd (a : Int) (b : Int) = ((a &&& b : Nat) : Int) := by
  rw [PyProof.Rows.bitAnd_pp (by omega) (by omega)]
  rfl
theorem bO (a b : Nat) : Builtin.bitOr (a : Int) (b : Int) = ((a ||| b : Nat) : Int) := by
  have h := MM.or_add_and a b
  rw [PyProof.Rows.bitOr_and, bA]
  omega
section
variable {X : Cx}
end
section
variable {H : Hp} {Q : VK} {σ : St} {D : Ends} {te : TE} {ti : TIp} {i : Nat} {x : V}
theorem rd_aug (e : σ[i]? = some (some x)) (h : te σ H fun y H1 => ti x y H1 fun z H2 => D.nx (σ.set i (some z)) H2) : tAug i te ti D σ H := ⟨x, e, h⟩
end
noncomputable abbrev nV (n : Nat) : V := .int (n : Nat)
theorem getD_nat {ns : List Nat} {i : Nat} (h : i < (ns.map nV).length) : (ns.map nV).getD i .non = .int (ns.getD i 0 : Nat) := by
  have h' : i < ns.length := by simpa using h
  simp [List.getD_eq_getElem?_getD, h']
theorem getD_int {ns : List Int} {i : Nat} (h : i < (ns.map V.int).length) : (ns.map V.int).getD i .non = .int (ns.getD i 0) := by
  have h' : i < ns.length := by simpa using h
  simp [List.getD_eq_getElem?_getD, h']
theorem atI_natV {ns : List Nat} {k : Int} (h0 : 0 ≤ k) (h1 : k < ns.length) : atI (ns.map nV) k = some (.int (ns.getD k.toNat 0 : Nat)) := by
  obtain ⟨j, rfl⟩ : ∃ j : Nat, k = j := ⟨k.toNat, by omega⟩
  have h' : j < ns.length := by omega
  refine atI_nat ?_
  rw [show ((j : Int)).toNat = j by omega]
  simp [List.getD_eq_getElem?_getD, h']
theorem take_getD {ns : List Nat} {i : Nat} (h : i < ns.length) : ns.take (i + 1) = ns.take i ++ [ns.getD i 0] := by
  rw [List.take_succ_eq_append_getElem h]
  simp [List.getD_eq_getElem?_getD, h]
theorem ints_comp {J : It} {g : TG} {σ0 : St} {H : Hp} {n : Nat} {st : Nat → St} {te : TE} {Q : VK} {D : Addr} {G : Nat → Int} (S : SrcOk J g σ0 H n st) (hD : H D = none) (hn : n ≤ 100000)
    (he : ∀ i H' (R : VK), i < n → Same H H' → (∀ H3, Same H' H3 → R (.int (G i)) H3) → te (st i) H' R)
    (hd : ∀ H', Same H H' → H' D = some (.lst (((List.range n).map G).map V.int)) → Q (.ref D) H') : CompW J σ0 g tYes te Q H D := by
  refine comp_map (m := 0) (G := fun i => .int (G i)) S hD hn (fun i H' R hi s k => he i H' R hi s fun H3 s3 => k H3 _ s3 (.int _)) fun H' ys s hl r => ?_
  have e : (List.range n).map (fun i => Dt.int (G i)) = ((List.range n).map G).map Dt.int := by rw [List.map_map]; rfl
  rw [e] at r
  obtain ⟨b, eb, hb, fb⟩ := ints_of r
  cases eb
  exact hd H' s hb
theorem ints_compF {J : It} {g : TG} {σ0 : St} {H : Hp} {n : Nat} {st : Nat → St} {tc : TT} {te : TE} {Q : VK} {D : Addr} {p : Nat → Bool} {G : Nat → Int} (S : SrcOk J g σ0 H n st) (hD : H D = none) (hn : n ≤ 100000)
    (ht : ∀ i H' (R : Bool → Hp → Prop), i < n → Same H H' → (∀ H3, Same H' H3 → R (p i) H3) → tc (st i) H' R)
    (he : ∀ i H' (R : VK), i < n → p i = true → Same H H' → (∀ H3, Same H' H3 → R (.int (G i)) H3) → te (st i) H' R)
    (hd : ∀ H', Same H H' → H' D = some (.lst ((((List.range n).filter p).map G).map V.int)) → Q (.ref D) H') : CompW J σ0 g tc te Q H D := by
  refine comp_data (m := 0) (p := p) (G := fun i => .int (G i)) S hD hn ht (fun i H' R hi hp s k => he i H' R hi hp s fun H3 s3 => k H3 _ s3 (.int _)) fun H' ys s hl r => ?_
  have e : ((List.range n).filter p).map (fun i => Dt.int (G i)) = (((List.range n).filter p).map G).map Dt.int := by rw [List.map_map]; rfl
  rw [e] at r
  obtain ⟨b, eb, hb, fb⟩ := ints_of r
  cases eb
  exact hd H' s hb
theorem bls_comp {J : It} {g : TG} {σ0 : St} {H : Hp} {n : Nat} {st : Nat → St} {te : TE} {Q : VK} {D : Addr} {G : Nat → Bool} (S : SrcOk J g σ0 H n st) (hD : H D = none) (hn : n ≤ 100000)
    (he : ∀ i H' (R : VK), i < n → Same H H' → (∀ H3, Same H' H3 → R (.bl (G i)) H3) → te (st i) H' R)
    (hd : ∀ H', Same H H' → H' D = some (.lst (((List.range n).map G).map V.bl)) → Q (.ref D) H') : CompW J σ0 g tYes te Q H D := by
  refine comp_map (m := 0) (G := fun i => .bl (G i)) S hD hn (fun i H' R hi s k => he i H' R hi s fun H3 s3 => k H3 _ s3 (.bl _)) fun H' ys s hl r => ?_
  have e : ys = ((List.range n).map G).map V.bl := by
    cases r with
    | @lst _ _ vs _ q f b l ee =>
      rw [hl] at q
      cases q
      refine List.ext_getElem (by simpa using l) fun i h1 h2 => ?_
      have hi : i < n := by simpa using h2
      have := ee i ys[i] (.bl (G i)) (by simp [h1]) (by simp [hi])
      cases hv : ys[i] <;> rw [hv] at this <;> cases this
      simp
  rw [e] at hl
  exact hd H' s hl
end L2
namespace L2
open PySem PySem.Spec PyProof.Rows
section
variable {X : Cx} {x m : Str} {C : Addr} {k : Nat} {ps : List Str} {sp : Sp} {o e : Expr} {es : List Expr} {t : TA} {ta : TE} {p pos apos : Pos}
end
structure Kind (K : PySem.W.Frag) (C : Addr) : Prop where
  cl : Cls K C
  ha : PySem.W.findIn K (.ref C) "__class__" = some (some (.builtin "object.__class__"))
  hn : PySem.W.specialIn K (.builtin "object.__class__") "__get__" = some (some (.builtin "getset_descriptor.__get__"))
  htk : PySem.W.takesIn K (.builtin "object.__class__") = some true
  hm : PySem.W.mroIn K C (.type "object") = some true
section
variable {K : PySem.W.Frag} {H : Hp} {Q : VK} {σ : St} {D : Ends} {te tv : TE} {t : TA} {a C dx : Addr} {fs : List (Str × V)} {f : Str} {v : V} {sp : Sp}
end
end L2
namespace L2
open PySem PySem.Spec PyProof.Rows
section
variable {X : Cx} {pins : List (Addr × Obj)} {σ : St} {H : Hp} {s : Shared}
end
end L2
namespace L2
open PySem PySem.Spec PyProof.Rows
noncomputable abbrev dN (n : Nat) : Dt := .int (n : Nat)
noncomputable def dT (ns : List Nat) : Dt := .tup (ns.map dN)
section
variable {H : Hp} {F : Addr → Prop} {n : Nat} {v : V}
theorem getD_mem {α : Type} {as : List α} {i : Nat} {y : α} (h : i < as.length) : as.getD i y ∈ as := by
  rw [List.getD_eq_getElem?_getD, List.getElem?_eq_getElem h]
  exact List.getElem_mem h
end
end L2
namespace L2
open PySem PySem.Spec PyProof.Rows
end L2
namespace L2
open PySem PySem.Spec PyProof.Rows
end L2
namespace L2
open PySem PySem.Spec PyProof.Rows
section
variable {H : Hp} {a : Addr} {kvs : List (Key × V)}
end
theorem cut_from {xs : List V} {k : Int} (h : 0 ≤ k) : cutV xs (some k) none = xs.drop k.toNat := by
  unfold cutV
  have e2 : HT.sIx xs.length xs.length none = xs.length := rfl
  rw [e2]
  have e1 : HT.sIx xs.length 0 (some k) = min k.toNat xs.length := by
    unfold HT.sIx
    simp only
    split <;> omega
  rw [e1]
  by_cases q : k.toNat ≤ xs.length
  · rw [Nat.min_eq_left q, List.take_of_length_le (by simp)]
  · rw [Nat.min_eq_right (by omega), List.drop_of_length_le (Nat.le_refl _), List.drop_of_length_le (by omega)]
    simp
section
variable {K : PySem.W.Frag} {wi : TI} {own : List Str} {fr : List (Str × Nat)} {g : TG} {tc : TT} {te tl : TE} {tb : TS} {D : Ends} {σ : St} {H : Hp} {Q : VK} {R : It → Hp → Prop} {ta : TA}
theorem rd_comp (h : wi σ H fun J H1 => ∀ D, H1 D = none → CompW J (blkSt own fr σ) g tc te Q H1 D) : tComp wi own fr g tc te σ H Q := h
theorem rd_for (h : wi σ H fun J H1 => ∃ W : Nat → Nat → St → Hp → Prop, (∃ m, W 0 m σ H1) ∧ ∀ i m σ H, W i m σ H →
  (J.stop i H ∧ D.nx σ H) ∨ (J.go i H ∧ ∃ N : St → Hp → Prop, (∀ σ' H', N σ' H' → ∃ m', m' < m ∧ W (i + 1) m' σ' H') ∧ ∀ x H', J.yld i H x H' → g x σ H' fun σ2 H2 => tb { D with nx := N, ct := N, bk := D.nx } σ2 H2)) : tFor wi g tb D σ H := h
theorem rd_iL (h : tl σ H fun x H1 => ∃ a, x = .ref a ∧ (∃ xs, SqL K H1 a xs) ∧ R (Itl K a) H1) : iList K tl σ H R := h
theorem rd_iQ (h : tl σ H fun x H1 => ∃ tp a, x = .ref a ∧ (∃ xs, SqS tp K H1 a xs) ∧ R (Isq tp K a) H1) : iSq K tl σ H R := h
theorem rd_iE (h : ta σ H fun vs H1 => ∃ a, vs = [.ref a] ∧ (∃ xs, SqL K H1 a xs) ∧ R (Ite K a) H1) : iEnum K ta σ H R := h
theorem rd_iF (h : ta σ H fun vs H1 => ∃ tp a, vs = [.ref a] ∧ (∃ xs, SqS tp K H1 a xs) ∧ R (IteS tp K a) H1) : iEnumS K ta σ H R := h
theorem rd_i1 (h : ta σ H fun vs H1 => ∃ j : Int, vs = [.int j] ∧ -(2 ^ 62) ≤ j ∧ j < 2 ^ 62 ∧ R (Itr 0 j.toNat) H1) : iRng1 ta σ H R := h
theorem rd_i2 (h : ta σ H fun vs H1 => ∃ i j : Int, vs = [.int i, .int j] ∧ (-(2 ^ 62) ≤ i ∧ i < 2 ^ 62 ∧ -(2 ^ 62) ≤ j ∧ j < 2 ^ 62) ∧ R (Itr i (j - i).toNat) H1) : iRng2 ta σ H R := h
end
theorem for_srcW {J : It} {g : TG} {H0 H : Hp} {n : Nat} {set : Nat → St → St} {tb : TS} {D : Ends} {σ : St} (S : FSrc J g H0 n set) (Pv : Nat → St → Hp → Prop) (h0 : Pv 0 σ H) (hk : ∀ i σ H', Pv i σ H' → Same H0 H')
    (hs : ∀ i σ H' H3, i < n → Pv i σ H' → Same H' H3 → tb { D with nx := Pv (i + 1), ct := Pv (i + 1), bk := D.nx } (set i σ) H3) (hd : ∀ σ H', Pv n σ H' → D.nx σ H') :
    ∃ W : Nat → Nat → St → Hp → Prop, (∃ m, W 0 m σ H) ∧ ∀ i m σ H, W i m σ H →
      (J.stop i H ∧ D.nx σ H) ∨ (J.go i H ∧ ∃ N : St → Hp → Prop, (∀ σ' H', N σ' H' → ∃ m', m' < m ∧ W (i + 1) m' σ' H') ∧ ∀ x H', J.yld i H x H' → g x σ H' fun σ2 H2 => tb { D with nx := N, ct := N, bk := D.nx } σ2 H2) := by
  refine ⟨fun i m σ H' => m = n - i ∧ i ≤ n ∧ Pv i σ H', ⟨n, by simp, Nat.zero_le _, h0⟩, ?_⟩
  rintro i m σ H1 ⟨rfl, hi, p⟩
  by_cases hlt : i < n
  · exact .inr ⟨S.go i H1 hlt (hk _ _ _ p), Pv (i + 1), fun σ' H' p' => ⟨n - (i + 1), by omega, rfl, hlt, p'⟩, fun x H' y => S.yld i σ H1 x H' _ hlt (hk _ _ _ p) y fun H3 s3 => hs i σ H1 H3 hlt p s3⟩
  · have e : i = n := by omega
    subst e
    exact .inl ⟨S.stop H1 (hk _ _ _ p), hd σ H1 p⟩
theorem fs_range0 {H : Hp} {i1 n : Nat} : FSrc (Itr 0 n) (gName i1) H n (fun i σ => σ.set i1 (some (.int (i : Nat)))) := by
  have := fs_range (H := H) (i1 := i1) (lo := 0) (n := n)
  simpa using this
theorem src_range0 {n : Nat} {σ0 : St} {H : Hp} (h0 : σ0[0]? = some none) : SrcOk (Itr 0 n) (gName 0) σ0 H n (fun i => σ0.set 0 (some (.int (i : Nat)))) := by
  have := src_range (H := H) (lo := 0) (n := n) h0
  simpa using this
theorem iteNF {A B : Prop} (h : B) : if (!true) = true then A else B := by simpa using h
end L2
namespace L2
open PySem PySem.Spec PyProof.Rows
end L2
namespace L2
open PySem PySem.Spec PyProof.Rows
end L2
namespace L2
open PySem PySem.Spec PyProof.Rows
end L2
namespace L2
theorem getD_el {α : Type} {as : List α} {i : Nat} {y : α} (h : i < as.length) : as.getD i y = as[i] := by
  rw [List.getD_eq_getElem?_getD, List.getElem?_eq_getElem h]
  rfl
end L2
namespace L2
open PySem PySem.Spec PyProof.Rows
end L2
namespace L2
open PySem PySem.Spec PyProof.Rows
end L2
namespace L2
open PySem PySem.Spec PyProof.Rows
section
variable {prog : Program} {w : World} {A : Around} {E : Value → Shared → Prop} {s : Shared} {T : String} {r d : Addr} {n : Nat} {P : Nat → Value → Prop} {St : Nat → Heap → Prop}
end
section
variable {prog : Program} {w : World} {A : Around} {E : Value → Shared → Prop} {s : Shared}
end
section
variable {X : Cx} {K : PySem.W.Frag} {e o : Expr} {ta : TA} {to : TE} {p p2 pos pos2 apos cpos : Pos}
end
end L2
namespace L2
open PySem PySem.Spec PyProof.Rows
section
variable {X : Cx} {K : PySem.W.Frag} {e o : Expr} {es : List Expr} {ta to : TE} {t : TA} {f name : Str} {pos apos cpos : Pos} {T id : String} {r : V → List V → Hp → VK → Prop}
theorem kx_bm (pa : PlainAttrs T) (slot : Slot T name id) (hty : typeOf (.builtin id) = pure (.type "method_descriptor")) (hm : MtR X id r) (ho : PE X o to) (ha : PA X (e :: es) t) (hK : X.K = K := by rfl)
    (hbase : attributeBase o name X.env (eval o X.env) = eval o X.env := by rfl)
    (hfew : ((backTo cpos (starEach (e :: es) X.env)).all (fun x => !x.1) && (backToKw cpos (keywordEach [] X.env)).all (fun x => x.1.isSome)
      && decide ((e :: es).length + ([] : List Keyword).length + (if ([] : List Keyword).isEmpty then 0 else 1) < 30)) = true := by rfl)
    (hline : (apos.endLine == cpos.line) = true := by rfl) (hs : starEach (e :: es) X.env = (false, eval e X.env) :: starEach es X.env := by rfl) (hplain : (backTo cpos (starEach es X.env)).any (·.1) = false := by rfl) :
    PE X (.Call (.Attribute o name apos) (e :: es) [] cpos) (tBM K T r to t) := by
  subst hK
  exact pe_bm pa slot hty hm ho ha hbase hfew hline hs hplain
end
end L2
namespace L2
open PySem PySem.Spec PyProof.Rows
section
variable {prog : Program} {w : World} {A : Around} {E : Value → Shared → Prop} {s : Shared}
end
section
variable {X : Cx} {K : PySem.W.Frag} {e o : Expr} {ta : TA} {to : TE} {p p2 pos pos2 apos cpos : Pos}
end
section
variable {X : Cx} {k : Nat} {e o : Expr} {es : List Expr} {t : TA} {to : TE} {pos : Pos} {S : Addr → Sp → Prop}
end
theorem arg1 {α : Type} {P : List α → Prop} (h : ∀ a0, P [a0]) : ∀ us : List α, us.length = 1 → P us := fun us hl => match us, hl with | [a0], _ => h a0
theorem arg2 {α : Type} {P : List α → Prop} (h : ∀ a0 a1, P [a0, a1]) : ∀ us : List α, us.length = 2 → P us := fun us hl => match us, hl with | [a0, a1], _ => h a0 a1
theorem arg3 {α : Type} {P : List α → Prop} (h : ∀ a0 a1 a2, P [a0, a1, a2]) : ∀ us : List α, us.length = 3 → P us := fun us hl => match us, hl with | [a0, a1, a2], _ => h a0 a1 a2
end L2
namespace L2
open PySem PySem.Spec PyProof.Rows
structure BlkScopeC (X : Cx) (scope : Scope) (cx : Str) (own : List Str) (fr : List (Str × Nat)) : Prop where
  kind : scope.kind = .function
  onec : ∀ y ∈ scope.names, y.2 = .cell → y.1 = cx
  isc : scope.names.lookup cx = some .cell
  lay : ∀ n cl, cellsFrom n scope.names cl = (cx, n) :: cl
  push : ∀ h : Heap, pushCells h scope.names = h.push { cls := .type "cell", data := .cell none }
  loc : ∀ y ∈ scope.names, y.2 = .local → scope.names.lookup y.1 = some .local
  free : ∀ y ∈ scope.names, y.2 = .free → (X.env.scope.names.lookup y.1 = some .cell ∨ X.env.scope.names.lookup y.1 = some .free)
  fr : ∀ p ∈ fr, X.N[p.2]? = some p.1 ∧ (p.1, NameKind.free) ∈ scope.names
  only : ∀ x, (x, NameKind.free) ∈ scope.names → scope.names.lookup x = some .free
section
variable {X : Cx} {pins : List (Addr × Obj)} {σ : St} {H : Hp} {s : Shared} {scope : Scope} {cx : Str} {own : List Str} {fr : List (Str × Nat)} {fp : List Addr}
end
section
variable {X : Cx}
end
section
variable {X : Cx} {scope : Scope} {cx : Str} {own : List Str} {fr : List (Str × Nat)}
end
end L2
namespace L2
open PySem PySem.Spec PyProof.Rows
section
variable {X : Cx} {K : PySem.W.Frag} {scope : Scope} {fr : List (Str × Nat)}
end
end L2
namespace L2
open PySem PySem.Spec PyProof.Rows
section
variable {X : Cx} {e o : Expr} {es : List Expr} {t : TA} {to : TE} {pos : Pos} {S : Addr → Sp → Prop}
end
end L2
namespace L2
open PySem PySem.Spec PyProof.Rows
noncomputable def rMaxL (K : PySem.W.Frag) : List V → Hp → VK → Prop := fun xs H Q => ∃ (p : Addr) (ns : List Int), xs = [.ref p] ∧ SqL K H p (ns.map V.int) ∧ ns ≠ [] ∧ ∀ M, M ∈ ns → (∀ a ∈ ns, a ≤ M) → Q (.int M) H
section
variable {X : Cx} {K : PySem.W.Frag}
theorem k_maxL (hK : X.K = K := by rfl) (hc : X.calm = true := by rfl) : CallR X (.builtin "max") (rMaxL K) := by
  subst hK
  intro pins s σ H xs us Q I r h
  obtain ⟨p, ns, rfl, hq, hn, q⟩ := h
  obtain ⟨u, rfl, rx⟩ := vals1 r
  cases rx
  obtain ⟨its, rv, pl, _⟩ := I.list hq
  obtain ⟨ps, e⟩ := (IntsAre.allInts (intsAre_of rv)).items
  have e' : its = ps.toList.map fun p => Value.int p.1 p.2 := by
    have := congrArg Array.toList e
    simpa [intItems] using this
  have hl := pl.isList
  rw [e] at hl
  have ef : ps.toList.map (·.1) = ns := fst_of_ints (ns := ns) (l := ps.toList) (by rw [← e']; exact rv)
  have hsz : ps.size = ns.length := by rw [← ef]; simp
  have hpos : 0 < ns.length := by
    cases ns with
    | nil => exact absurd rfl hn
    | cons _ _ => simp
  have na : ∀ i, i < ps.size → numAt ps i = ns.getD i 0 := fun i hi => by
    rw [← ef]
    unfold numAt
    simp [List.getD_eq_getElem?_getD, hi]
  refine max_intList (I.ok.hd hc) hl (by omega) fun v h' tk hv hk => ?_
  obtain ⟨b1, b2⟩ := argBest_gt (numAt ps) (ps.size - 1)
  generalize argBest (fun i j => decide (numAt ps i > numAt ps j)) (ps.size - 1) = k at hv b1 b2
  have hk' : k < ps.size := by omega
  have ev : v = Value.int (numAt ps k) (ps[k]).2 := by
    unfold intItems at hv
    simp [hk'] at hv
    rw [← hv]
    unfold numAt
    simp [hk']
  subst ev
  refine ⟨.int (numAt ps k), H, I.kept hk, ⟨_, rfl⟩, q _ ?_ ?_⟩
  · rw [na k hk']
    exact getD_mem (by omega)
  · intro a ha
    obtain ⟨i, hi, rfl⟩ := List.getElem_of_mem ha
    have := b2 i (by omega)
    rw [na i (by omega), getD_el hi] at this
    exact this
end
end L2
namespace HT
open PySem PySem.Spec PyProof.Rows
variable {prog : Program} {w : World} {A : Around} {E : Value → Shared → Prop} {s : Shared}
end HT
namespace L2
open PySem PySem.Spec PyProof.Rows
theorem vals_of_ints : ∀ {vs : List Value} {ns : List Int}, IntsAre vs ns → Vals (ns.map V.int) vs
  | _, _, .nil => .nil
  | _, _, .cons n t h => .cons ⟨t, rfl⟩ (vals_of_ints h)
theorem sorted_count : checkCount "sorted" 1 1 1 = pure () := rfl
end L2
namespace L2
open PySem PySem.Spec PyProof.Rows
end L2
namespace L2
open PySem PySem.Spec PyProof.Rows
end L2
namespace L2
open PySem PySem.Spec PyProof.Rows
section
variable {P : Program} {w : World} {K : PySem.W.Frag} {mg : Str → Option Value} {base : Heap} {N : List Str} {qual : Str} {scope : Scope} {f : Addr} {cd : Value} {A : Around} {outer : List Env} {s₀ : Shared} {H₀ : Hp} {E : XK}
end
end L2
namespace L2
open PySem PySem.Spec PyProof.Rows
section
variable {X : Cx} {pins : List (Addr × Obj)} {σ : St} {H : Hp} {s s₁ : Shared} {E : XK} {e : Value}
end
end L2
namespace L2
open PySem PySem.Spec PyProof.Rows
section
variable {X : Cx} {pins pins0 : List (Addr × Obj)} {σ : St} {H : Hp} {s : Shared} {xe : Value → Shared → Prop}
end
end L2
namespace L2
open PySem PySem.Spec PyProof.Rows PySem.W
end L2
namespace HT
open PySem PySem.Spec PyProof.Rows PySem.W PySem.Calls PySem.Builtin PySem.Builtin.ObjectAttr PySem.Builtin.Getset_descriptor
noncomputable def ExcAt (a C : Addr) (h : Heap) : Prop := ∃ o, h.get? a = some o ∧ o.cls = .ref C
structure ExcKind (K : Frag) (C : Addr) : Prop where
  cl : (clsIn K C).isSome = true
  ga : findIn K (.ref C) "__getattribute__" = some (some (.builtin "BaseException.__getattribute__"))
  ng : findIn K (.ref C) "__getattr__" = some none
  hb : mroIn K C (.type "BaseException") = some true
  ha : findIn K (.ref C) "__class__" = some (some (.builtin "object.__class__"))
  hn : specialIn K (.builtin "object.__class__") "__get__" = some (some (.builtin "getset_descriptor.__get__"))
  htk : takesIn K (.builtin "object.__class__") = some true
  hm : mroIn K C (.type "object") = some true
theorem ExcAt.type {M : Model} {h : Heap} {a C : Addr} (x : ExcAt a C h) : Looks M h (typeOf (.ref a)) (.ref C) := by
  obtain ⟨o, e, c⟩ := x
  exact c ▸ (Looks.ld e).andThen .now
section
variable {prog : Program} {w : World} {A : Around} {E : Value → Shared → Prop} {s : Shared} {K : Frag} {a C : Addr}
end
end HT
namespace L2
open PySem PySem.Spec PyProof.Rows
end L2
namespace HT
open PySem PySem.Spec PyProof.Rows PySem.W
end HT
namespace L2
open PySem PySem.Spec PyProof.Rows
section
variable {X : Cx} {x : Str} {C : Addr} {k : Nat} {ps : List Str} {sp : Sp} {E : XK} {e : Expr} {es : List Expr} {t : TA} {p pos : Pos}
end
end L2
namespace L2
open PySem PySem.Spec PyProof.Rows
section
variable {P : Program} {w : World} {K : PySem.W.Frag} {mg : Str → Option Value} {base : Heap}
end
end L2
namespace L2
open PySem PySem.Spec PyProof.Rows
end L2
namespace HT
open PySem PySem.Spec PyProof.Rows PySem.SeqAt
open PySem.AutoSeq1 (wpAny_loadPart')
open PySem.MeetsSeq PySem.MeetsSeq2 PySem.MeetsSeq3
section
variable {A : Around} {s : Shared}
end
end HT
namespace L2
open PySem PySem.Spec PyProof.Rows
inductive DX where
  | d (d : Dt) | dic | tdic (rest : List Dt)
inductive Rx (H : Hp) (n : Nat) : V → DX → Prop
  | d {v : V} {d : Dt} (r : Rp H FT n v d) : Rx H n v (.d d)
  | dic {a : Addr} (h : H a = some (.dK [])) : Rx H n (.ref a) .dic
  | tdic {t a : Addr} {ws : List V} {ds : List Dt} (ht : H t = some (.tup (.ref a :: ws))) (h : H a = some (.dK [])) (l : ws.length = ds.length) (e : ∀ (i : Nat) (v : V) (d : Dt), ws[i]? = some v → ds[i]? = some d → Rp H FT n v d) : Rx H n (.ref t) (.tdic ds)
section
variable {X : Cx} {pins : List (Addr × Obj)} {σ : St} {H : Hp} {s : Shared}
end
theorem ifE {c : Bool} {ta tb : TE} {σ : St} {H : Hp} {R : VK} (P : V → Hp → Prop) (h1 : ∀ v H', P v H' → R v H') (h2 : ∀ R' : VK, (∀ v H', P v H' → R' v H') → if c = true then ta σ H R' else tb σ H R') : if c = true then ta σ H R else tb σ H R := h2 R h1
end L2
namespace L2
open PySem PySem.Spec PyProof.Rows PySem.W
noncomputable def exO (a : Addr) (o : Obj) : HO := .ext fun h => h.get? a = some o
section
variable {P : Program} {w : World} {K : PySem.W.Frag} {mg : Str → Option Value} {base : Heap} {N : List Str} {qual : Str} {scope : Scope} {f : Addr} {cd : Value} {cl : List (Str × Addr)} {A : Around} {outer : List Env} {s : Shared} {H : Hp} {E : XK}
structure ClOkL (N : List Str) (scope : Scope) (cl : List (Str × Addr)) (h : Heap) (H : Hp) (vs : List V) : Prop where
  len : vs.length = N.length
  inj : ∀ x y c, cl.lookup x = some c → cl.lookup y = some c → x = y
  has : ∀ x, (scope.names.lookup x = some .cell ∨ scope.names.lookup x = some .free) → ∃ c, cl.lookup x = some c
  val : ∀ (i : Nat) (x : Str) (v : V), N[i]? = some x → vs[i]? = some v → ∃ c u, scope.names.lookup x = some .free ∧ cl.lookup x = some c ∧ RelV v u ∧ h.IsCell c (some u)
  cell : ∀ x c, cl.lookup x = some c → (∃ v, h.IsCell c v) ∧ H c = none
end
noncomputable def codeO (qual : Str) (oc : Obj) : Prop := ∃ vs t, oc.data = .fields vs ∧ vs[1]? = some (.str qual t)
end L2
namespace L2
open PySem PySem.Spec PyProof.Rows PySem.W
structure LamX (X : Cx) (c P : Addr) : Prop where
  code : X.env.code = .ref c
  hd : CodeHd X.base c P
  blt : X.base.BuiltinsAt X.mg P
section
variable {X : Cx} {pins : List (Addr × Obj)} {σ : St} {H : Hp} {s : Shared}
end
structure LamOk (params : Arguments) (scope : Scope) : Prop where
  kind : scope.kind = .function
  co : scope.isCoroutine = false
  gen : scope.isGenerator = false
  cell : ∀ x ∈ scope.names, x.2 ≠ .cell
  bind : ∀ (qual : Str) (body : Expr) (cl : List (Str × Addr)) (pm cdv ctv : Value), bindArgs (kla_fn "<lambda>" qual params body scope cl pm cdv ctv) ⟨[], []⟩ = pure []
end L2
namespace L2
open PySem PySem.Spec PyProof.Rows PySem.W
section
variable {P : Program} {w : World} {K : PySem.W.Frag} {mg : Str → Option Value} {base : Heap}
structure ThAt (s : Shared) (H : Hp) (outer : List Env) (f c' : Addr) (oc : Obj) (N : List Str) (qual : Str) (scope : Scope) (cl : List (Str × Addr)) (params : Arguments) (body : Expr) (pm ctv : Value) (vs : List V) : Prop where
  hf : s.heap.get? f = some (kla_obj "<lambda>" qual params body scope cl pm c' ctv)
  hf0 : H f = none
  nf : f ∉ frs outer
  hc : H c' = some (exO c' oc)
  hoc : codeO qual oc
  C : ClOkL N scope cl s.heap H vs
  nc : ∀ x c, cl.lookup x = some c → c ∉ frs outer
  lo : LamOk params scope
end
end L2
namespace L2
open PySem PySem.Spec PyProof.Rows PySem.W
end L2
namespace L2
open PySem PySem.Spec PyProof.Rows
section
variable {X : Cx} {K : PySem.W.Frag} {e lo st : Expr} {te tl ts : TE} {pos p2 : Pos}
end
section
variable {J : It} {g : TG} {σ0 : St} {H : Hp} {n : Nat} {st : Nat → St} {te : TE} {Q : VK} {D : Addr}
theorem comp_any {Pv : Nat → V → Hp → Prop} (S : SrcOk J g σ0 H n st) (hD : H D = none) (hn : n ≤ 100000) (stab : ∀ i y H1 H2, Pv i y H1 → Same H1 H2 → Pv i y H2) (off : ∀ i y H1 ys o, Same H H1 → Pv i y H1 → H1 D = some (.lst ys) → Pv i y (upd H1 D o))
    (he : ∀ i H' (R : VK), i < n → Same H H' → (∃ ys, H' D = some (.lst ys)) → (∀ H3 y, Same H' H3 → Pv i y H3 → R y H3) → te (st i) H' R)
    (hd : ∀ H' ys, Same H H' → H' D = some (.lst ys) → ys.length = n → (∀ i y, ys[i]? = some y → Pv i y H') → Q (.ref D) H') :
    CompW J σ0 g tYes te Q H D := by
  refine ⟨fun i k ys H' => k = n - i ∧ i ≤ n ∧ Same H H' ∧ H' D = some (.lst ys) ∧ ys.length = i ∧ ∀ (j : Nat) (y : V), ys[j]? = some y → Pv j y H', ⟨_, rfl, Nat.zero_le _, same_at (Same.refl _) hD, upd_same, rfl, fun j y q => by simp at q⟩, ?_⟩
  rintro i k ys H1 ⟨rfl, hi, s1, hl, len, el⟩
  by_cases hlt : i < n
  · refine .inr ⟨S.go i H1 hlt s1, fun ys' H' => Same H H' ∧ H' D = some (.lst ys') ∧ ys'.length = i + 1 ∧ ∀ (j : Nat) (y : V), ys'[j]? = some y → Pv j y H', fun ys' H' q => ⟨n - (i + 1), by omega, rfl, hlt, q⟩, fun x H2 y => ?_⟩
    refine S.yld i H1 x H2 _ hlt s1 y fun H3 s3 => ⟨S.kp i hlt, ?_⟩
    unfold tYes
    refine iteT ?_
    have hl3 : H3 D = some (.lst ys) := s3 _ _ hl
    refine he i H3 _ hlt (s1.trans s3) ⟨ys, hl3⟩ fun H5 y s5 py => ?_
    have hl5 : H5 D = some (.lst ys) := s5 _ _ hl3
    have s15 := s1.trans (s3.trans s5)
    refine ⟨hl5, ?_, ?_, upd_same, ?_, ?_⟩
    · exact Nat.lt_of_le_of_lt (by omega : ys.length ≤ 100000) (by decide)
    · exact same_at s15 hD
    · rw [List.length_append, len]
      rfl
    · intro j z h1
      by_cases hj : j < ys.length
      · rw [List.getElem?_append_left hj] at h1
        exact off j z H5 ys _ s15 (stab j z H1 H5 (el j z h1) (s3.trans s5)) hl5
      · have ej : j = ys.length := by
          have := (List.getElem?_eq_some_iff.mp h1).1
          rw [List.length_append] at this
          have : ([y] : List V).length = 1 := rfl
          omega
        subst ej
        rw [List.getElem?_append_right (Nat.le_refl _), Nat.sub_self] at h1
        cases h1
        rw [len]
        exact off i _ H5 ys _ s15 py hl5
  · have e : i = n := by omega
    subst e
    exact .inl ⟨S.stop H1 s1, hd H1 ys s1 hl len el⟩
end
end L2
namespace HT
open PySem PySem.Spec PyProof.Rows PySem.W
noncomputable def Rise (xs : Array Nat) : Prop := xs.toList.Pairwise (· < ·)
theorem Rise.at {xs : Array Nat} (h : Rise xs) {i j : Nat} (hij : i < j) (hj : j < xs.size) : xs.getD i 0 < xs.getD j 0 := by
  have := List.pairwise_iff_getElem.mp h i j (by simpa using Nat.lt_trans hij hj) (by simpa using hj) hij
  simpa [Array.getD, hj, Nat.lt_trans hij hj] using this
theorem below_go {xs : Array Nat} {j : Nat} : ∀ (f lo hi : Nat), hi - lo ≤ f → lo ≤ hi → hi ≤ xs.size → Rise xs → (∀ i, i < lo → xs.getD i 0 < j) → (∀ i, hi ≤ i → i < xs.size → j ≤ xs.getD i 0) →
    SetTable.below.go xs j f lo hi ≤ xs.size ∧ (∀ i, i < SetTable.below.go xs j f lo hi → xs.getD i 0 < j) ∧ ∀ i, SetTable.below.go xs j f lo hi ≤ i → i < xs.size → j ≤ xs.getD i 0
  | 0, lo, hi, hf, hl, hs, r, a, b => by
    have e : lo = hi := by omega
    subst e
    unfold SetTable.below.go
    exact ⟨hs, a, b⟩
  | f + 1, lo, hi, hf, hl, hs, r, a, b => by
    unfold SetTable.below.go
    by_cases c : lo < hi
    · rw [if_pos c]
      dsimp only
      have m1 : (lo + hi) / 2 < hi := by omega
      have m2 : lo ≤ (lo + hi) / 2 := by omega
      have e : xs.getD ((lo + hi) / 2) j = xs.getD ((lo + hi) / 2) 0 := by
        have : (lo + hi) / 2 < xs.size := by omega
        simp [Array.getD, this]
      rw [e]
      by_cases d : xs.getD ((lo + hi) / 2) 0 < j
      · rw [if_pos d]
        refine below_go f _ _ (by omega) (by omega) hs r (fun i hi' => ?_) b
        rcases Nat.lt_or_ge i ((lo + hi) / 2) with z | z
        · exact Nat.lt_trans (r.at z (by omega)) d
        · have : i = (lo + hi) / 2 := by omega
          rw [this]; exact d
      · rw [if_neg d]
        refine below_go f _ _ (by omega) (by omega) (by omega) r a (fun i hi' hz => ?_)
        rcases Nat.eq_or_lt_of_le hi' with z | z
        · rw [← z]; omega
        · have := r.at z hz
          omega
    · rw [if_neg c]
      have e : lo = hi := by omega
      subst e
      exact ⟨hs, a, b⟩
theorem below_at {xs : Array Nat} {j : Nat} (r : Rise xs) : SetTable.below xs j ≤ xs.size ∧ (∀ i, i < SetTable.below xs j → xs.getD i 0 < j) ∧ ∀ i, SetTable.below xs j ≤ i → i < xs.size → j ≤ xs.getD i 0 :=
  below_go _ _ _ (by omega) (Nat.zero_le _) (Nat.le_refl _) r (fun i h => absurd h (Nat.not_lt_zero _)) (fun i h z => absurd z (by omega))
theorem below_zero {xs : Array Nat} (r : Rise xs) : SetTable.below xs 0 = 0 := by
  obtain ⟨_, a, _⟩ := below_at (j := 0) r
  rcases Nat.eq_zero_or_pos (SetTable.below xs 0) with z | z
  · exact z
  · exact absurd (a 0 z) (by omega)
theorem below_next {xs : Array Nat} (r : Rise xs) {i : Nat} (hi : i < xs.size) : SetTable.below xs (xs.getD i 0 + 1) = i + 1 := by
  obtain ⟨s, a, b⟩ := below_at (j := xs.getD i 0 + 1) r
  rcases Nat.lt_trichotomy (SetTable.below xs (xs.getD i 0 + 1)) (i + 1) with z | z | z
  · have := b i (by omega) hi
    omega
  · exact z
  · have h1 := a (i + 1) z
    have h2 := r.at (show i < i + 1 by omega) (show i + 1 < xs.size by omega)
    omega
theorem rise_put {xs : Array Nat} {j : Nat} (r : Rise xs) (h : xs[SetTable.below xs j]? ≠ some j) : Rise (SetTable.insertAt xs (SetTable.below xs j) j) := by
  obtain ⟨s, a, b⟩ := below_at (j := j) r
  generalize SetTable.below xs j = p at *
  unfold Rise
  rw [SetTable.toList_insertAt]
  have lt1 : ∀ x ∈ xs.toList.take p, x < j := fun x hx => by
    obtain ⟨i, hi, rfl⟩ := List.mem_iff_getElem.mp hx
    rw [List.length_take, Array.length_toList] at hi
    have := a i (by omega)
    have hi' : i < xs.size := by omega
    simpa [Array.getD, hi'] using this
  have lt2 : ∀ x ∈ xs.toList.drop p, j < x := fun x hx => by
    obtain ⟨i, hi, rfl⟩ := List.mem_iff_getElem.mp hx
    rw [List.length_drop, Array.length_toList] at hi
    have hi' : p + i < xs.size := by omega
    have := b (p + i) (by omega) hi'
    rw [List.getElem_drop]
    have e : xs.getD (p + i) 0 = xs.toList[p + i]'(by simpa using hi') := by simp [Array.getD, hi']
    rw [← e]
    rcases Nat.eq_zero_or_pos i with z | z
    · subst z
      have hne : xs.getD p 0 ≠ j := fun q => h (by
        have hp : p < xs.size := by omega
        rw [Array.getElem?_eq_getElem hp]
        simpa [Array.getD, hp] using q)
      have hne' : xs.getD (p + 0) 0 ≠ j := hne
      omega
    · have := r.at (show p < p + i by omega) hi'
      have h0 := b p (Nat.le_refl _) (by omega)
      omega
  rw [List.pairwise_append]
  refine ⟨List.Pairwise.sublist (List.take_sublist ..) r, ?_, fun x hx y hy => ?_⟩
  · rw [List.pairwise_cons]
    exact ⟨lt2, List.Pairwise.sublist (List.drop_sublist ..) r⟩
  · rcases List.mem_cons.mp hy with rfl | hy
    · exact lt1 x hx
    · exact Nat.lt_trans (lt1 x hx) (lt2 y hy)
structure TOk (L : Bool) (t : SetTable) : Prop where
  rise : Rise t.place
  dum : t.dummies = #[]
  led : t.led = L
theorem has_none {j : Nat} : SetTable.has #[] j = false := by
  simp [SetTable.has]
theorem probe_go {t : SetTable} {f : Nat → Int} {h : Int} (hd : t.dummies = #[]) : ∀ (n : Nat) (p : SetTable.Probe) (j : Nat) (d : Option Nat), p.dummy = none → SetTable.probe.go t f h n p = some (.empty j d) → d = none ∧ t.slot j = .empty
  | 0, p, j, d, _, e => by unfold SetTable.probe.go at e; cases e
  | n + 1, p, j, d, hp, e => by
    unfold SetTable.probe.go at e
    cases hs : t.slot p.j with
    | empty =>
      rw [hs] at e
      simp only [Option.some.injEq, SetTable.Met.empty.injEq] at e
      exact ⟨e.2 ▸ hp, e.1 ▸ hs⟩
    | dummy =>
      unfold SetTable.slot at hs
      rw [hd, has_none] at hs
      dsimp only at hs
      split at hs
      · cases hs
      · cases hs
    | live i =>
      rw [hs] at e
      dsimp only at e
      split at e
      · cases e
      · refine probe_go hd n _ j d ?_ e
        unfold SetTable.advance
        split
        · exact hp
        · exact hp
theorem free_slot {t : SetTable} {h : Int} {j : Nat} {b : Bool} (hd : t.dummies = #[]) (e : t.freeSlot h = some (j, b)) : t.place[SetTable.below t.place j]? ≠ some j := by
  unfold SetTable.freeSlot at e
  split at e
  · rename_i j' d heq
    unfold SetTable.probe at heq
    obtain ⟨rfl, hs⟩ := probe_go hd _ _ _ _ rfl heq
    simp only [Option.some.injEq, Prod.mk.injEq, Option.getD_none] at e
    obtain ⟨rfl, _⟩ := e
    intro q
    unfold SetTable.slot at hs
    dsimp only at hs
    rw [q] at hs
    simp at hs
  · cases e
theorem tok_stand {L : Bool} {t : SetTable} (h : TOk L t) (n : Nat) : TOk L (t.standIn n) where
  rise := by
    unfold Rise SetTable.standIn
    simpa using List.pairwise_lt_range
  dum := rfl
  led := h.led
theorem tok_lay {L : Bool} {t : SetTable} (h : TOk L t) (es : Array (Int × Value)) (hh : Int) (x : Value) : TOk L (layNew t es hh x).2.1 := by
  unfold layNew
  split
  · rename_i slot wd heq
    dsimp only
    have k : TOk L (t.put slot).1 := ⟨rise_put h.rise (free_slot h.dum heq), by
      unfold SetTable.put
      dsimp only
      rw [h.dum, has_none]
      rfl, h.led⟩
    unfold SetTable.orStandIn
    split
    · exact k
    · exact tok_stand k _
  · exact tok_stand h _
theorem tok_relay {L : Bool} {t : SetTable} (h : TOk L t) (es : Array (Int × Value)) (n : Nat) : TOk L (relayAll t es n).2.1 := by
  unfold relayAll
  split
  · rename_i t' order heq
    dsimp only
    split
    · unfold SetTable.relaid SetTable.laid at heq
      simp only [Option.bind_eq_bind, Option.bind_eq_some_iff, Option.pure_def, Option.some.injEq, Prod.mk.injEq] at heq
      obtain ⟨owner, _, rfl, _⟩ := heq
      refine ⟨?_, rfl, h.led⟩
      unfold Rise
      simp only [List.map_filterMap]
      refine List.Pairwise.filterMap _ ?_ List.pairwise_lt_range
      intro a a' r b hb b' hb'
      simp only [Option.map_map, Function.comp_def, Option.map_eq_some_iff] at hb hb'
      obtain ⟨_, _, rfl⟩ := hb
      obtain ⟨_, _, rfl⟩ := hb'
      exact r
    · exact tok_stand h _
  · exact tok_stand h _
theorem tok_fresh (L : Bool) : TOk L (.fresh 0 0 L) := ⟨by unfold Rise SetTable.fresh; exact .nil, rfl, rfl⟩
end HT
namespace HT
open PySem PySem.Spec PyProof.Rows PySem.W
noncomputable def kOf (e : Int × Value) : Int := match e.2 with
  | .int k _ => k
  | _ => 0
section
variable {prog : Program} {w : World} {A : Around} {E : Value → Shared → Prop} {s : Shared}
noncomputable def WSet (prog : Program) (w : World) (a : Addr) (ks : List Int) (h : Heap) : Prop := ∃ o es ep t, h.get? a = some o ∧ o.ExactSet ∧ o.data = .set es ep t ∧ ElemsOf (intKind prog w) es.toList ∧ (es.toList.map kOf).Perm ks ∧ ks.Nodup ∧ es.size < scanBound ∧ t.fits es.size = true ∧ TOk (!w.params.followText "set-order") t
theorem WSet.to {a : Addr} {ks : List Int} {h h' : Heap} (x : WSet prog w a ks h) (k : ∀ o, h.get? a = some o → h'.get? a = some o) : WSet prog w a ks h' := by
  obtain ⟨o, es, ep, t, ho, r⟩ := x
  exact ⟨o, es, ep, t, k _ ho, r⟩
theorem elem_key {es : List (Int × Value)} (h : ElemsOf (intKind prog w) es) {e : Int × Value} (he : e ∈ es) : ∃ k t, e.2 = .int k t ∧ kOf e = k := by
  obtain ⟨⟨k, hk, _⟩, _⟩ := h e he
  obtain ⟨t, ht⟩ := Value.isInt_shape hk
  exact ⟨k, t, ht, by unfold kOf; rw [ht]⟩
theorem wset_add {a : Addr} {ks : List Int} {k : Int} {t : Tok} {Q : Bool → Shared → Prop} (hS : WSet prog w a ks s.heap) (room : ks.length + 1 < scanBound)
    (h : ∀ h' b, Heap.SameBut a s.heap h' → WSet prog w a (if k ∈ ks then ks else ks ++ [k]) h' → Q b { s with heap := h' }) :
    wpAny (model prog w) A (setAddHashed a (.int k t) (hashInt k)) Q E s := by
  obtain ⟨o, es, ep, tb, ho, hex, hd, hel, pm, nd, hb, hf, tk⟩ := hS
  have hlen : es.size = ks.length := by rw [← pm.length_eq, List.length_map, Array.length_toList]
  unfold setAddHashed setAddHashedIn
  refine wpAny_holding (wpAny_bind (wpAny_setState_of ho hd hf ?_))
  dsimp only
  rw [byScan_of (knd := intKind prog w) (show (Value.int k t).scannable = true from rfl) hb hel]
  simp only [↓reduceIte]
  unfold setAddByScan
  refine wpAny_bind (wpAny_bind (wpAny_rule (wpAny_bind (wpAny_setScan_of (knd := intKind prog w) (k := k) (intKind_is _ _ _ _) ho hd hf hel ?_))))
  cases hr : List.findIdx? (fun e => (intKind prog w).is k e.2) es.toList with
  | some j =>
    dsimp only
    obtain ⟨hj, hpj, _⟩ := List.findIdx?_eq_some_iff_getElem.mp hr
    have hm : k ∈ ks := by
      obtain ⟨t', ht⟩ := Value.isInt_shape hpj
      refine pm.mem_iff.mp (List.mem_map.mpr ⟨_, List.getElem_mem hj, ?_⟩)
      unfold kOf
      rw [ht]
    refine wpAny_pure (wpAny_pure ?_)
    have := h s.heap false (Heap.SameBut.refl a s.heap) (by rw [if_pos hm]; exact ⟨o, es, ep, tb, ho, hex, hd, hel, pm, nd, hb, hf, tk⟩)
    exact this
  | none =>
    dsimp only
    have hn : k ∉ ks := fun hm => by
      obtain ⟨e, he, ek⟩ := List.mem_map.mp (pm.mem_iff.mpr hm)
      obtain ⟨k', t', e2, e3⟩ := elem_key hel he
      have := List.findIdx?_eq_none_iff.mp hr e he
      rw [e2, show k' = k from e3.symm.trans ek] at this
      rw [show (intKind prog w).is k (.int k t') = true from intKind_is _ _ _ _] at this
      cases this
    have hperm := layNew_perm tb es (hashInt k) (.int k t)
    have hfits := layNew_fits tb es (hashInt k) (.int k t)
    have htok := tok_lay tk es (hashInt k) (.int k t)
    generalize layNew tb es (hashInt k) (.int k t) = L at hperm hfits htok ⊢
    obtain ⟨es1, t1, wd, gave⟩ := L
    dsimp only at hperm hfits htok ⊢
    rw [Array.toList_push] at hperm
    have hel1 : ElemsOf (intKind prog w) es1.toList := (hel.push (k := k) (intKind_is _ _ _ _) rfl).perm hperm
    have hs1 : es1.size = es.size + 1 := by rw [← Array.length_toList, hperm.length_eq, List.length_append, Array.length_toList]; rfl
    have hb1 : es1.size < scanBound := by omega
    have pm1 : (es1.toList.map kOf).Perm (ks ++ [k]) := (hperm.map kOf).trans (by
      rw [List.map_append]
      exact List.Perm.append pm (List.Perm.refl _))
    have nd1 : (ks ++ [k]).Nodup := List.nodup_append.mpr ⟨nd, by simp, fun x hx y hy => by
      rw [List.mem_singleton.mp hy]
      intro z
      exact hn (z ▸ hx)⟩
    have gw : ∀ (b : Bool) (s₁ : Shared) (Q' : Unit → Shared → Prop), Q' () s₁ → wpAny (model prog w) A (match b with | true => rule "set.scan.the-table-gave-way" | false => pure ()) Q' E s₁ :=
      fun b s₁ Q' hq => by cases b <;> first | exact wpAny_pure hq | exact wpAny_rule hq
    refine wpAny_bind (gw gave s _ ?_)
    have tail : ∀ t2 : SetTable, t2.fits es1.size = true → TOk (!w.params.followText "set-order") t2 → wpAny (model prog w) A (do
        storeSet a es1 t2
        if (!wd && t2.tooFull) = true then do
            (match (relayAll t2 es1 (SetTable.grown es1.size)).2.2 with | true => rule "set.scan.the-table-gave-way" | false => pure ())
            storeSet a (relayAll t2 es1 (SetTable.grown es1.size)).1 (relayAll t2 es1 (SetTable.grown es1.size)).2.1
            pure (some true)
          else pure (some true)) (fun r s' => ∃ h' b, r = some b ∧ s' = { s with heap := h' } ∧ Q b s') E s := by
      intro t2 f2 k2
      refine wpAny_bind (wpAny_storeSet_of ho hd ?_ (fits_of_scanBound hb1))
      have g1 : (s.heap.update a (Obj.putSet es1 t2)).get? a = some { o with data := .set es1 (ep + 1) t2 } := by
        have z := Heap.get?_update_self (Obj.putSet es1 t2) ho (by rw [putSet_of es1 t2 hd]; rfl)
        rwa [putSet_of es1 t2 hd] at z
      have sb1 := Heap.SameBut.update s.heap a (Obj.putSet es1 t2)
      split
      · have hp := relayAll_perm t2 es1 (SetTable.grown es1.size)
        have hfr := relayAll_fits t2 es1 (SetTable.grown es1.size)
        have k3 := tok_relay k2 es1 (SetTable.grown es1.size)
        generalize relayAll t2 es1 (SetTable.grown es1.size) = Rl at hp hfr k3 ⊢
        obtain ⟨es2, t3, gave2⟩ := Rl
        dsimp only at hp hfr k3 ⊢
        have hs2 : es2.size = es1.size := by rw [← Array.length_toList, hp.length_eq, Array.length_toList]
        refine wpAny_bind (gw gave2 _ _ ?_)
        refine wpAny_bind (wpAny_storeSet_of g1 rfl ?_ (fits_of_scanBound (by rw [hs2]; exact hb1)))
        refine wpAny_pure ⟨_, true, rfl, rfl, h _ true (sb1.trans (Heap.SameBut.update _ a _)) ?_⟩
        rw [if_neg hn]
        refine ⟨{ o with data := .set es2 (ep + 1 + 1) t3 }, es2, ep + 1 + 1, t3, ?_, hex, rfl, hel1.perm hp, (hp.map kOf).trans pm1, nd1, by rw [hs2]; exact hb1, hfr, k3⟩
        have z := Heap.get?_update_self (Obj.putSet es2 t3) g1 (by rw [putSet_of es2 t3 rfl]; rfl)
        rwa [putSet_of es2 t3 rfl] at z
      · refine wpAny_pure ⟨_, true, rfl, rfl, h _ true sb1 ?_⟩
        rw [if_neg hn]
        exact ⟨_, es1, ep + 1, t2, g1, hex, rfl, hel1, pm1, nd1, hb1, f2, k2⟩
    split
    · refine wpAny_bind ?_
      rw [hashByValue_scannable 8 (show (Value.int k t).scannable = true from rfl)]
      refine wpAny_pure ?_
      refine wpAny_mono (tail _ hfits htok) (fun r s' ⟨h', b, e1, e2, q⟩ => ?_) fun _ _ e => e
      subst e1
      exact wpAny_pure q
    · refine wpAny_bind (wpAny_pure ?_)
      simp only [↓reduceIte]
      refine wpAny_mono (tail _ hfits htok) (fun r s' ⟨h', b, e1, e2, q⟩ => ?_) fun _ _ e => e
      subst e1
      exact wpAny_pure q
end
end HT
namespace HT
open PySem PySem.Spec PyProof.Rows PySem.W
section
variable {prog : Program} {w : World} {A : Around} {E : Value → Shared → Prop} {s : Shared}
noncomputable def addK (ks : List Int) (k : Int) : List Int := if k ∈ ks then ks else ks ++ [k]
noncomputable def metK (ns : List Int) : List Int := ns.foldl addK []
theorem addK_len (ks : List Int) (k : Int) : (addK ks k).length ≤ ks.length + 1 := by
  unfold addK
  split
  · omega
  · simp
theorem foldK_len : ∀ (ns ks : List Int), (ns.foldl addK ks).length ≤ ks.length + ns.length
  | [], ks => Nat.le_refl _
  | n :: ns, ks => by
    have h1 := foldK_len ns (addK ks n)
    have h2 := addK_len ks n
    simp only [List.foldl_cons, List.length_cons]
    omega
theorem foldK_mem : ∀ (ns ks : List Int) (k : Int), k ∈ ns.foldl addK ks ↔ k ∈ ks ∨ k ∈ ns
  | [], ks, k => by simp
  | n :: ns, ks, k => by
    rw [List.foldl_cons, foldK_mem ns]
    unfold addK
    split
    · rename_i h
      simp only [List.mem_cons]
      exact ⟨fun z => z.imp id .inr, fun z => z.elim .inl fun z => z.elim (fun e => .inl (e ▸ h)) .inr⟩
    · simp only [List.mem_cons, List.mem_append, List.mem_singleton, List.not_mem_nil, or_false]
      exact or_assoc
theorem metK_mem (ns : List Int) (k : Int) : k ∈ metK ns ↔ k ∈ ns := by unfold metK; rw [foldK_mem]; simp
theorem set_loop {I : Addr} {fp wr : List Addr} {G : Array GenState → Array GenState → Prop} {n : Nat} {P : Nat → Value → Prop} {St : Nat → Shared → Prop} {R : Result → Shared → Prop} (W : WalksS prog w A.in1 I fp wr G n P St) (S : Addr) (hSf : S ∉ fp)
    (ns : List Int) (hnl : ns.length = n) (hval : ∀ i v, P i v → ∃ t, v = .int (ns.getD i 0) t) (hb : n + 1 < scanBound) : ∀ (k i : Nat) (s : Shared), n - i = k → i ≤ n → St i s → WSet prog w S (metK (ns.take i)) s.heap →
      (∀ s', Moved (S :: wr) G s s' → WSet prog w S (metK ns) s'.heap → R (.ok (.ret .none)) s') → codeAny (model prog w) A (.builtin "set.update.loop" ⟨[.ref S, .ref I], []⟩) R s := by
  have hSw : S ∉ wr := fun h => hSf (W.sub _ h)
  have hsub : ∀ b ∈ wr, b ∈ S :: wr := fun b hb => List.mem_cons_of_mem _ hb
  intro k
  induction k with
  | zero =>
    intro i s hk hi hst hS hR
    have hin : i = n := by omega
    subst hin
    refine codeAny_builtin PyProof.Rows.F.entry_set_update_loop ?_
    rw [Around.under_plainId PyProof.Rows.F.plain_set_update_loop _]
    show wpAny _ A.in1 (pyNext (.ref I) >>= _) _ _ s
    refine wpAny_bind (W.done s _ _ hst fun s' hm => ?_)
    rw [← hnl, List.take_length] at hS
    exact wpAny_pure (hR s' (hm.mono hsub) (hS.to fun o e => hm.heap S o hSw e))
  | succ k ih =>
    intro i s hk hi hst hS hR
    have hlt : i < n := by omega
    refine codeAny_builtin PyProof.Rows.F.entry_set_update_loop ?_
    rw [Around.under_plainId PyProof.Rows.F.plain_set_update_loop _]
    show wpAny _ A.in1 (pyNext (.ref I) >>= _) _ _ s
    refine wpAny_bind (W.item i s _ _ hlt hst fun v s' hP hst' hm => ?_)
    obtain ⟨t, rfl⟩ := hval i v hP
    show wpAny _ A.in1 (holding [Value.int (ns.getD i 0) t] (setAdd S (.int (ns.getD i 0) t)) >>= _) _ _ s'
    refine wpAny_bind (wpAny_holding ?_)
    unfold setAdd
    refine wpAny_holding (wpAny_bind ((intKind prog w).pyHash (k := ns.getD i 0) (intKind_is _ _ _ _) ?_))
    have room : (metK (ns.take i)).length + 1 < scanBound := by
      have := foldK_len (ns.take i) []
      unfold metK
      rw [List.length_take] at this
      simp only [List.length_nil] at this
      omega
    refine wset_add (s := { s' with toks := s'.toks + 1 }) (hS.to fun o e => hm.heap S o hSw e) room fun h' b hsb hS2 => ?_
    have e : ns.take (i + 1) = ns.take i ++ [ns.getD i 0] := by
      rw [List.take_add_one, List.getElem?_eq_getElem (by omega), List.getD_eq_getElem?_getD, List.getElem?_eq_getElem (by omega)]
      rfl
    have hSi : WSet prog w S (metK (ns.take (i + 1))) h' := by
      unfold metK
      rw [e, List.foldl_append]
      exact hS2
    refine wpAny_pure ⟨plainId_quiet PyProof.Rows.F.plain_set_update_loop _, ih (i + 1) _ (by omega) hlt (W.frame _ s' _ _ hst' (Nat.le_succ _) fun b hb o e => ?_) hSi fun s'' hm'' hS'' => ?_⟩
    · exact (hsb.2 b (fun h : b = S => hSf (h ▸ hb))).trans e
    · exact hR s'' (Moved.trans W.gtrans ((hm.mono hsub).then_heap (Nat.le_succ _) fun b o hb e => (hsb.2 b (fun h : b = S => hb (h ▸ List.mem_cons_self))).trans e) hm'') hS''
theorem set_made (a : Value) {Q₁ : Value → Shared → Prop} (h : Q₁ (.ref s.heap.objs.size) { s with heap := s.heap.push { cls := .type "set", dict := none, data := .set #[] 0 (.fresh 0 0 (!w.params.followText "set-order")) } }) :
    codeAny (model prog w) A (.call (.builtin "set.__new__") ⟨[.type "set", a], []⟩) (wants Q₁ E) s := by
  refine codeAny_of_tree ?_
  show wpAny _ A.in1 (checkBuiltinCall "set.__new__" ⟨[.type "set", a], []⟩ >>= fun _ => again (.builtin "set.__new__" ⟨[.type "set", a], []⟩)) _ _ s
  refine wpAny_bind (wpAny_of_eq (PySem.F.newCall_set_1 a) (wpAny_pure ⟨plainId_quiet PySem.F.plain_set_new _, codeAny_builtin PySem.F.entry_set_new ?_⟩))
  rw [Around.under_plainId PySem.F.plain_set_new _]
  unfold Builtin.«set.__new__» Builtin.Frozenset.newClass
  have hsub := sub_set_self
  obtain ⟨hp, g, d, tk, os⟩ := s
  dsimp only
  wp_walk
  refine wpAny_askSetting (wpAny_pure ?_)
  dsimp only [newObj]
  exact wpAny_bind (wpAny_alloc (wpAny_pure (wpAny_pure h)))
theorem set_call {l : Addr} {items : Array Value} {ns : List Int} {Q : Value → Shared → Prop} (hh : A.handled = none) (hl : s.heap.IsList l items) (hi : IntsAre items.toList ns) (hb : items.size + 1 < scanBound)
    (h : ∀ (h' : Heap) (tk : Nat), WSet prog w s.heap.objs.size (metK ns) h' → (∀ b o, s.heap.get? b = some o → h'.get? b = some o) → Q (.ref s.heap.objs.size) { s with heap := h', toks := tk }) :
    wpAny (model prog w) A (call (.type "set") [.ref l]) Q E s := by
  obtain ⟨cH, tlH, mro'⟩ := PySem.F.called_set.mro
  have made' := PySem.F.called_set.made
  have sub' := PySem.F.called_set.sub
  refine wpAny_call (codeAny_of_tree ?_)
  show wpAny _ _ (callAny (.type "set") _) _ _ _
  refine wpAny_pure ⟨Code.quiet_builtin _ (by decide +kernel), codeAny_builtin PySem.F.entry_type_call ?_⟩
  rw [Around.under_plain (weight_type_call_type "set" [.ref l] []) rfl]
  have n1 := PySem.F.called_set.notType
  have n2 := PySem.F.called_set.canCreate
  have n3 := PySem.F.typeCall_set_1 (.ref l)
  repeat (any_goals (first | assumption | wp_step))
  generalize hO : ({ cls := .type "set", dict := none, data := .set #[] 0 (.fresh 0 0 (!w.params.followText "set-order")) } : Obj) = O
  refine codeAny_mono (set_made (.ref l) (E := E) (Q₁ := fun obj s₁ => obj = .ref s.heap.objs.size ∧ s₁ = { s with heap := s.heap.push O }) ⟨rfl, by rw [hO]⟩) fun r s₁ hr => ?_
  cases r with
  | error e => exact hr
  | ok fl =>
    cases fl with
    | ret obj =>
      obtain ⟨rfl, rfl⟩ := hr
      have hS : (s.heap.push O).get? s.heap.objs.size = some O := Heap.get?_push_size _ (by rw [← hO]; rfl)
      have hT : Shared.TypeIs { s with heap := s.heap.push O } (.ref s.heap.objs.size) "set" := ⟨_, hS, by rw [← hO]⟩
      have i1 := PySem.F.called_set.init.lookup
      have i2 := PySem.F.called_set.init.bind (.ref s.heap.objs.size)
      repeat (any_goals (first | assumption | wp_step))
      refine codeAny_mono (codeAny_call_builtin (R := wants (fun r s₂ => r = .none ∧ ∃ h' tk, s₂ = { s with heap := h', toks := tk } ∧ WSet prog w s.heap.objs.size (metK ns) h' ∧ (∀ b o, s.heap.get? b = some o → h'.get? b = some o)) E) PySem.F.called_set.init.plain PySem.F.entry_set_init (check_set_init_1 hT ?_)) fun r₂ s₂ hr₂ => ?_
      · obtain ⟨ol, hol, hcl, nl, hdl⟩ := hl
        obtain ⟨oc, od, oda, osl⟩ := ol
        simp only at hcl hdl
        subst hcl; subst hdl
        have hol' : (s.heap.push O).get? l = some { cls := .type "list", dict := od, data := .seq items nl, slots := osl } := Heap.get?_push_of_some _ hol
        have q1 := PySem.F.sub_list_set
        have q2 := PySem.F.sub_list_frozenset
        have q3 : (Value.type "list" == Value.type "dict") = false := by decide
        have hl1 : (s.heap.push O).IsList l items := ⟨_, hol', rfl, nl, rfl⟩
        have hS' : (s.heap.push O).get? s.heap.objs.size = some { cls := .type "set", dict := none, data := .set #[] 0 (.fresh 0 0 (!w.params.followText "set-order")) } := by rw [hO]; exact hS
        unfold Builtin.«set.__init__» noKeywords Builtin.Frozenset.updateFrom
        generalize hPI : pyIter = PI
        wp_walk
        subst hPI
        refine wpAny_pyIter_list hl1 ?_
        refine wpAny_bind (wpAny_runValue ?_)
        have hlS : l < s.heap.objs.size := Heap.lt_size hol
        have neI : l ≠ (s.heap.push O).objs.size := by
          rw [Heap.size_push]; exact Nat.ne_of_lt (Nat.lt_succ_of_lt hlS)
        have hSf : s.heap.objs.size ∉ [(s.heap.push O).objs.size, l] := by
          rw [Heap.size_push]
          simp only [List.mem_cons, List.not_mem_nil, or_false, not_or]
          exact ⟨Nat.ne_of_lt (Nat.lt_succ_self _), Nat.ne_of_gt hlS⟩
        have hnl : ns.length = items.size := by rw [← hi.length, Array.length_toList]
        refine set_loop ((Walks.list (show A.in1.in1.in1.handled = none by simp [hh]) _ l neI items).toS) s.heap.objs.size hSf ns hnl (fun i v hv => PyProof.Rows.IntsAre.int_at hi i v (by rw [Array.getElem?_toList]; exact hv)) hb (items.size - 0) 0 _ (by omega) (Nat.zero_le _)
          ⟨⟨_, Heap.get?_push_size _ rfl, rfl, rfl⟩, (hl1.push _)⟩ ?_ ?_
        · exact ⟨_, #[], 0, _, Heap.get?_push_of_some _ hS', ⟨rfl, rfl, rfl⟩, rfl, fun e he => by simp at he, .nil, .nil, by decide, rfl, tok_fresh _⟩
        · intro s' hm hS2
          obtain ⟨h', g', d', tk', os'⟩ := s'
          have eg : g' = s.gens := hm.gens
          have ed : d' = s.drawn := hm.drawn
          have eo : os' = s.os := hm.os
          subst eg; subst ed; subst eo
          refine wpAny_pure (wpAny_pure ⟨rfl, h', tk', rfl, hS2, fun b o e => ?_⟩)
          have hb0 := Heap.lt_size e
          have hb2 : b ≠ (s.heap.push O).objs.size := by
            rw [Heap.size_push]; exact Nat.ne_of_lt (Nat.lt_succ_of_lt hb0)
          exact hm.heap b o (by simp only [List.mem_cons, List.not_mem_nil, or_false, not_or]; exact ⟨Nat.ne_of_lt hb0, hb2⟩) (Heap.get?_push_of_some _ (Heap.get?_push_of_some _ e))
      · cases r₂ with
        | error e => exact hr₂
        | ok fl₂ =>
          cases fl₂ with
          | ret r =>
            obtain ⟨rfl, h', tk, rfl, hS', hk'⟩ := hr₂
            repeat (any_goals (first | assumption | wp_step))
            exact h _ _ hS' hk'
          | _ => exact hr₂.elim
    | _ => exact hr.elim
end
end HT
namespace HT
open PySem PySem.Spec PyProof.Rows PySem.W
theorem own_setit : Manifest.owners.lookup (String.ofList ['r', 'o', 't', 'a', 'r', 'e', 't', 'i', '_', 't', 'e', 's'].reverse) = some Manifest.sig_set_iterator := by kernel_rfl
theorem slot_setit_next : Slot "set_iterator" "__next__" "set_iterator.__next__" := .of (owner := "set_iterator") (n := "__next__") (by rw [typeLookup_type, builtinLookup_eq_fast]; kernel_rfl) (by decide +kernel) (by decide +kernel) (by decide +kernel) (by first | exact .inl (by decide +kernel) | exact .inr (by decide +kernel)) (by rw [isSubtype_type]; kernel_rfl)
theorem ent_setit_next : entryFor table "set_iterator.__next__" = some Builtin.«set_iterator.__next__» := entryFor_of_tree (by kernel_rfl)
theorem arg_setit_next (a : Value) : argsOk "set_iterator.__next__" ⟨[a], []⟩ := by unfold argsOk; rw [signature?_of (id := "set_iterator.__next__") (n := ['_', '_', 't', 'x', 'e', 'n', '_', '_']) (o := ['r', 'o', 't', 'a', 'r', 'e', 't', 'i', '_', 't', 'e', 's']) (by kernel_rfl) own_setit]; kernel_rfl
theorem ent_set_iter : entryFor table "set.__iter__" = some Builtin.«frozenset.__iter__» := entryFor_alias (id' := "frozenset.__iter__") (by kernel_rfl) rfl (by decide +kernel) (by kernel_rfl)
section
variable {prog : Program} {w : World} {A : Around} {E : Value → Shared → Prop} {s : Shared}
structure RawS (a : Addr) (es : Array (Int × Value)) (ep : Nat) (t : SetTable) (h : Heap) : Prop where
  at_ : ∃ o, h.get? a = some o ∧ o.ExactSet ∧ o.data = .set es ep t
  fits : t.fits es.size = true
theorem RawS.to {a : Addr} {es : Array (Int × Value)} {ep : Nat} {t : SetTable} {h h' : Heap} (x : RawS a es ep t h) (k : ∀ o, h.get? a = some o → h'.get? a = some o) : RawS a es ep t h' := by
  obtain ⟨⟨o, ho, r⟩, f⟩ := x
  exact ⟨⟨o, k _ ho, r⟩, f⟩
theorem RawS.type {a : Addr} {es : Array (Int × Value)} {ep : Nat} {t : SetTable} (x : RawS a es ep t s.heap) : s.TypeIs (.ref a) "set" := by
  obtain ⟨⟨o, ho, hx, _⟩, _⟩ := x
  exact ⟨_, ho, hx.1⟩
theorem RawS.state {a : Addr} {es : Array (Int × Value)} {ep : Nat} {t : SetTable} {Q : (Array (Int × Value) × Nat × SetTable) → Shared → Prop} (x : RawS a es ep t s.heap) (h : Q (es, ep, t) s) : wpAny (model prog w) A (setState a) Q E s := by
  obtain ⟨⟨o, ho, hx, hd⟩, f⟩ := x
  exact wpAny_setState_of ho hd f h
noncomputable def SIt (I : Addr) (first : Value) (i : Nat) (a : Addr) (n ep : Nat) (h : Heap) : Prop := ∃ o, h.get? I = some o ∧ o.cls = .type "set_iterator" ∧ o.data = .fields #[first, .int i 0, .ref a, .int n 0, .int ep 0]
theorem SIt.to {I : Addr} {first : Value} {i : Nat} {a : Addr} {n ep : Nat} {h h' : Heap} (x : SIt I first i a n ep h) (k : ∀ o, h.get? I = some o → h'.get? I = some o) : SIt I first i a n ep h' := by
  obtain ⟨o, ho, r⟩ := x
  exact ⟨o, k _ ho, r⟩
theorem SIt.type {I : Addr} {first : Value} {i : Nat} {a : Addr} {n ep : Nat} (x : SIt I first i a n ep s.heap) : s.TypeIs (.ref I) "set_iterator" := by
  obtain ⟨o, ho, hc, _⟩ := x
  exact ⟨_, ho, hc⟩
theorem SIt.upd0 {I : Addr} {x y : Value} {i : Nat} {a : Addr} {n ep : Nat} {h : Heap} (hI : SIt I x i a n ep h) : SIt I y i a n ep (h.update I (Obj.mapFields (·.setIfInBounds 0 y))) := by
  obtain ⟨o, ho, hc, hd⟩ := hI
  exact ⟨_, Heap.get?_update_self _ ho (Obj.isFreed_of_fields (Obj.data_mapFields hd _)), (Obj.cls_mapFields ..).trans hc, by rw [Obj.data_mapFields hd]; simp⟩
theorem SIt.upd1 {I : Addr} {x : Value} {i : Nat} {a : Addr} {n ep : Nat} {h : Heap} (hI : SIt I x i a n ep h) : SIt I x (i + 1) a n ep (h.update I (Obj.mapFields (·.setIfInBounds 1 (rawInt ((i : Int) + 1))))) := by
  obtain ⟨o, ho, hc, hd⟩ := hI
  exact ⟨_, Heap.get?_update_self _ ho (Obj.isFreed_of_fields (Obj.data_mapFields hd _)), (Obj.cls_mapFields ..).trans hc, by rw [Obj.data_mapFields hd]; simp [rawInt]⟩
theorem set_size {a : Addr} {es : Array (Int × Value)} {ep n : Nat} {t : SetTable} {α : Type} {x y : Sem α} {Q : α → Shared → Prop} (hS : RawS a es ep t s.heap) (hn : es.size = n) (h : wpAny (model prog w) A y Q E s) :
    wpAny (model prog w) A (setEntries a >>= fun z => if ((z.size : Int) != (n : Int)) = true then x else y) Q E s := by
  refine wpAny_bind ?_
  unfold setEntries
  refine wpAny_bind (hS.state (wpAny_pure ?_))
  dsimp only
  rw [if_neg (by simp [hn])]
  exact h
theorem set_item1 {I a : Addr} {slot nx i n ep : Nat} {es : Array (Int × Value)} {t : SetTable} {v : Value} {Q : Option Value → Shared → Prop} (hI : SIt I (.int slot 0) i a n ep s.heap) (hS : RawS a es ep t s.heap) (hn : es.size = n)
    (hN : ∀ (B : Around) (E' : Value → Shared → Prop) (Q' : Option (Value × Nat) → Shared → Prop), Q' (some (v, nx)) s → wpAny (model prog w) B (setNext a slot i ep) Q' E' s)
    (hQ : ∀ h', SIt I (.int nx 0) (i + 1) a n ep h' → Heap.SameBut I s.heap h' → Q (some v) { s with heap := h' }) : wpAny (model prog w) A (pyNext (.ref I)) Q E s := by
  have hT := hI.type
  obtain ⟨o, ho, hc, hd⟩ := id hI
  unfold pyNext
  refine wpAny_bind (wpAny_attempt (wpAny_callSpecial?_slot (name := Str.ofString "__next__") hT slot_setit_next (wpAny_call_entry slot_setit_next hT ent_setit_next ?_ (arg_setit_next _))))
  unfold Builtin.«set_iterator.__next__»
  refine wpAny_bind (wpAny_pure (wpAny_bind (wpAny_fieldsOf ho hd ?_)))
  dsimp only
  refine set_size hS hn ?_
  simp only [Int.toNat_natCast]
  refine wpAny_bind (hN _ _ _ ?_)
  dsimp only
  have I1 : SIt I (.int nx 0) i a n ep (s.heap.update I (Obj.mapFields (·.setIfInBounds 0 (rawInt nx)))) := hI.upd0
  refine wpAny_bind (wpAny_setField ho hd (by simp) ?_)
  obtain ⟨o1, ho1, hc1, hd1⟩ := id I1
  refine wpAny_bind (wpAny_setField ho1 hd1 (by simp) ?_)
  exact wpAny_pure ⟨_, rfl, wpAny_pure (hQ _ I1.upd1 ((Heap.SameBut.update ..).trans (Heap.SameBut.update ..)))⟩
theorem stop_at {I : Addr} {o : Obj} {fs : Array Value} {Q : Option Value → Shared → Prop} {P : PySem.Fin → Shared → Prop} (hh : A.handled = none) (ho : s.heap.get? I = some o) (hd : o.data = .fields fs) (h2 : 2 < fs.size)
    (hQ : ∀ h', Heap.ExtBut I s.heap h' → Q none { s with heap := h' }) :
    wpAny (model prog w) A.in1 (setField (.ref I) 2 .none >>= fun _ => newExc (.type "StopIteration") [] >>= fun x => raiseNew x) P (fun e s' => wpAny (model prog w) A (isInstance e (.type "StopIteration") >>= fun b => if b = true then pure none else throw e) Q E s') s := by
  refine wpAny_bind (wpAny_setField ho hd h2 ?_)
  refine wpAny_bind ?_
  simp only [newExc, newTuple]
  refine wpAny_bind (wpAny_newObj_type ?_ (by size_fits))
  refine wpAny_bind (m := firstArgMember _ _) (wpAny_of_eq (a := Value.none) (by first | rfl | (simp only [firstArgMember]; rfl)) ?_)
  refine wpAny_newObj_type ?_ (by size_fits)
  simp only [raiseNew]
  refine wpAny_bind (wpAny_handled ?_)
  rw [show A.in1.handled = none from hh]
  refine wpAny_bind (wpAny_pure (wpAny_throw ?_))
  refine wpAny_bind (wpAny_isInstance (T := "StopIteration") (b := true) ⟨_, Heap.get?_push_size _ rfl, rfl⟩ isSubtype_stop ?_)
  exact wpAny_pure (hQ _ (((Heap.SameBut.update ..).extBut.push _).push _))
theorem set_end1 {I a : Addr} {slot i n ep : Nat} {es : Array (Int × Value)} {t : SetTable} {Q : Option Value → Shared → Prop} (hh : A.handled = none) (hI : SIt I (.int slot 0) i a n ep s.heap) (hS : RawS a es ep t s.heap) (hn : es.size = n)
    (hN : ∀ (B : Around) (E' : Value → Shared → Prop) (Q' : Option (Value × Nat) → Shared → Prop), Q' none s → wpAny (model prog w) B (setNext a slot i ep) Q' E' s)
    (hQ : ∀ h', Heap.ExtBut I s.heap h' → Q none { s with heap := h' }) : wpAny (model prog w) A (pyNext (.ref I)) Q E s := by
  have hT := hI.type
  obtain ⟨o, ho, hc, hd⟩ := id hI
  unfold pyNext
  refine wpAny_bind (wpAny_attempt (wpAny_callSpecial?_slot (name := Str.ofString "__next__") hT slot_setit_next (wpAny_call_entry slot_setit_next hT ent_setit_next ?_ (arg_setit_next _))))
  unfold Builtin.«set_iterator.__next__»
  refine wpAny_bind (wpAny_pure (wpAny_bind (wpAny_fieldsOf ho hd ?_)))
  dsimp only
  refine set_size hS hn ?_
  simp only [Int.toNat_natCast]
  refine wpAny_bind (hN _ _ _ ?_)
  dsimp only
  exact stop_at hh ho hd (by simp) hQ
theorem set_item2 {I a tp : Addr} {i n ep place : Nat} {tk : Tok} {es : Array (Int × Value)} {t : SetTable} {ot : Obj} {its : Array Value} {nn : Nat} {hv : Int} {v : Value} {Q : Option Value → Shared → Prop} (hI : SIt I (.ref tp) i a n ep s.heap) (hS : RawS a es ep t s.heap) (hn : es.size = n)
    (ht : s.heap.get? tp = some ot) (hit : ot.data = .seq its nn) (hi : its[i]? = some (.int place tk)) (hp : es[place]? = some (hv, v))
    (hQ : ∀ h', SIt I (.ref tp) (i + 1) a n ep h' → Heap.SameBut I s.heap h' → Q (some v) { s with heap := h' }) : wpAny (model prog w) A (pyNext (.ref I)) Q E s := by
  have hT := hI.type
  obtain ⟨o, ho, hc, hd⟩ := id hI
  unfold pyNext
  refine wpAny_bind (wpAny_attempt (wpAny_callSpecial?_slot (name := Str.ofString "__next__") hT slot_setit_next (wpAny_call_entry slot_setit_next hT ent_setit_next ?_ (arg_setit_next _))))
  unfold Builtin.«set_iterator.__next__»
  refine wpAny_bind (wpAny_pure (wpAny_bind (wpAny_fieldsOf ho hd ?_)))
  dsimp only
  refine set_size hS hn ?_
  simp only [Int.toNat_natCast]
  refine wpAny_bind (wpAny_seqItems ht hit ?_)
  dsimp only
  rw [hi]
  dsimp only
  refine wpAny_bind ?_
  unfold setNextDrawn
  refine wpAny_bind (hS.state ?_)
  simp only [bne_self_eq_false, Bool.false_eq_true, if_false, Int.toNat_natCast]
  rw [hp]
  dsimp only
  refine wpAny_pure ?_
  refine wpAny_bind (wpAny_setField ho hd (by simp) ?_)
  exact wpAny_pure ⟨_, rfl, wpAny_pure (hQ _ hI.upd1 (Heap.SameBut.update ..))⟩
theorem set_end2 {I a tp : Addr} {i n ep : Nat} {es : Array (Int × Value)} {t : SetTable} {ot : Obj} {its : Array Value} {nn : Nat} {Q : Option Value → Shared → Prop} (hh : A.handled = none) (hI : SIt I (.ref tp) i a n ep s.heap) (hS : RawS a es ep t s.heap) (hn : es.size = n)
    (ht : s.heap.get? tp = some ot) (hit : ot.data = .seq its nn) (hi : its[i]? = none)
    (hQ : ∀ h', Heap.ExtBut I s.heap h' → Q none { s with heap := h' }) : wpAny (model prog w) A (pyNext (.ref I)) Q E s := by
  have hT := hI.type
  obtain ⟨o, ho, hc, hd⟩ := id hI
  unfold pyNext
  refine wpAny_bind (wpAny_attempt (wpAny_callSpecial?_slot (name := Str.ofString "__next__") hT slot_setit_next (wpAny_call_entry slot_setit_next hT ent_setit_next ?_ (arg_setit_next _))))
  unfold Builtin.«set_iterator.__next__»
  refine wpAny_bind (wpAny_pure (wpAny_bind (wpAny_fieldsOf ho hd ?_)))
  dsimp only
  refine set_size hS hn ?_
  simp only [Int.toNat_natCast]
  refine wpAny_bind (wpAny_seqItems ht hit ?_)
  dsimp only
  rw [hi]
  dsimp only
  have I1 : SIt I (rawInt 0) i a n ep (s.heap.update I (Obj.mapFields (·.setIfInBounds 0 (rawInt 0)))) := hI.upd0
  refine wpAny_bind (wpAny_setField ho hd (by simp) ?_)
  obtain ⟨o1, ho1, hc1, hd1⟩ := id I1
  exact stop_at (s := { s with heap := s.heap.update I (Obj.mapFields (·.setIfInBounds 0 (rawInt 0))) }) hh ho1 hd1 (by simp) fun h' e => hQ h' fun b ob nb z => e b ob nb ((Heap.get?_update_other _ _ (Ne.symm nb)).trans z)
end
end HT
namespace HT
open PySem PySem.Spec PyProof.Rows PySem.W
theorem slot_setit_iter : Slot "set_iterator" "__iter__" "set_iterator.__iter__" := .of (owner := "set_iterator") (n := "__iter__") (by rw [typeLookup_type, builtinLookup_eq_fast]; kernel_rfl) (by decide +kernel) (by decide +kernel) (by decide +kernel) (by first | exact .inl (by decide +kernel) | exact .inr (by decide +kernel)) (by rw [isSubtype_type]; kernel_rfl)
theorem arg_setit_iter (a : Value) : argsOk "set_iterator.__iter__" ⟨[a], []⟩ := by unfold argsOk; rw [signature?_of (id := "set_iterator.__iter__") (n := ['_', '_', 'r', 'e', 't', 'i', '_', '_']) (o := ['r', 'o', 't', 'a', 'r', 'e', 't', 'i', '_', 't', 'e', 's']) (by kernel_rfl) own_setit]; kernel_rfl
theorem ent_setit_iter : entryFor table "set_iterator.__iter__" = some Builtin.«dict_keyiterator.__iter__» := entryFor_alias (id' := "dict_keyiterator.__iter__") (by kernel_rfl) rfl (by decide +kernel) (by kernel_rfl)
theorem erase_perm {α : Type} : ∀ (l : List α) (i : Nat) (h : i < l.length), (l[i] :: l.eraseIdx i).Perm l
  | [], i, h => absurd h (Nat.not_lt_zero _)
  | x :: l, 0, h => List.Perm.refl _
  | x :: l, i + 1, h => by
    simp only [List.getElem_cons_succ, List.eraseIdx_cons_succ]
    exact (List.Perm.swap ..).trans (List.Perm.cons _ (erase_perm l i (by simpa using h)))
theorem pick_go {α : Type} (next : Nat → Nat) : ∀ (f k : Nat) (left : List α) (out : Array α), left.length = f → (pickOrder.go next f k left out).toList.Perm (out.toList ++ left)
  | 0, k, left, out, h => by
    unfold pickOrder.go
    rw [List.length_eq_zero_iff.mp h, List.append_nil]
  | f + 1, k, left, out, h => by
    unfold pickOrder.go
    have hl : next k % left.length < left.length := Nat.mod_lt _ (by omega)
    rw [List.getElem?_eq_getElem hl]
    dsimp only
    refine (pick_go next f _ _ _ (by rw [List.length_eraseIdx, if_pos hl]; omega)).trans ?_
    rw [Array.toList_push, List.append_assoc]
    refine List.Perm.append (List.Perm.refl _) ?_
    exact (erase_perm _ _ hl)
theorem pick_perm {α : Type} (next : Nat → Nat) (xs : Array α) : (pickOrder next xs).toList.Perm xs.toList := by
  have := pick_go next xs.size 0 xs.toList #[] (by simp)
  simpa [pickOrder] using this
section
variable {prog : Program} {w : World} {A : Around} {E : Value → Shared → Prop} {s : Shared}
theorem choose_at {src : Source} {n : Nat} {Q : Nat → Shared → Prop} (hn : n ≠ 0) (h : ∀ i d, i < n → Q i { s with drawn := d }) : wpAny (model prog w) A (choose src n) Q E s :=
  fun _ _ _ => ⟨hn, h _ _ (Nat.mod_lt _ (Nat.pos_of_ne_zero hn))⟩
theorem draw_at {α : Type} : ∀ (n : Nat) (xs : List α) (s : Shared) {Q : List α → Shared → Prop}, xs.length ≤ n → (∀ ys d, ys.Perm xs → Q ys { s with drawn := d }) → wpAny (model prog w) A (drawOrder n xs) Q E s
  | 0, xs, s, Q, hl, h => by
    unfold drawOrder
    have := h [] s.drawn (by rw [List.length_eq_zero_iff.mp (Nat.le_zero.mp hl)])
    exact wpAny_pure this
  | n + 1, [], s, Q, hl, h => by
    unfold drawOrder
    have := h [] s.drawn (List.Perm.refl _)
    exact wpAny_pure this
  | n + 1, x :: xs, s, Q, hl, h => by
    unfold drawOrder
    refine wpAny_bind (choose_at (by simp) fun i d hi => ?_)
    rw [List.getElem?_eq_getElem hi]
    dsimp only
    refine wpAny_bind (draw_at n _ _ (by rw [List.length_eraseIdx, if_pos hi]; simp only [List.length_cons] at hl ⊢; omega) fun ys d' p => ?_)
    exact wpAny_pure (h _ d' ((List.Perm.cons _ p).trans (erase_perm _ _ hi)))
noncomputable abbrev bt (w : World) : Bool := w.params.followText "set-order"
noncomputable abbrev drw (es : Array (Int × Value)) (t : SetTable) : Bool := !t.plain && decide (es.size > 1)
noncomputable def ordA (w : World) (a : Addr) (ep : Nat) (es : Array (Int × Value)) : Array (Int × Value) := if bt w = true then pickOrder (w.params.setOrder a ep) es else es
theorem ordA_perm (a : Addr) (ep : Nat) (es : Array (Int × Value)) : (ordA w a ep es).toList.Perm es.toList := by
  unfold ordA
  split
  · exact pick_perm ..
  · exact List.Perm.refl _
theorem ordA_size (a : Addr) (ep : Nat) (es : Array (Int × Value)) : (ordA w a ep es).size = es.size := by
  rw [← Array.length_toList, (ordA_perm a ep es).length_eq, Array.length_toList]
theorem next_at {a : Addr} {es : Array (Int × Value)} {ep slot i : Nat} {t : SetTable} (hS : RawS a es ep t s.heap) (tk : TOk (!bt w) t) (nd : bt w = true ∨ drw es t = false) (hc : bt w = true ∨ SetTable.below t.place slot = i) :
    ∃ r : Option (Value × Nat), (∀ (B : Around) (E' : Value → Shared → Prop) (Q' : Option (Value × Nat) → Shared → Prop), Q' r s → wpAny (model prog w) B (setNext a slot i ep) Q' E' s) ∧
      (i < es.size → ∃ e nx, (ordA w a ep es)[i]? = some e ∧ r = some (e.2, nx) ∧ (bt w = true ∨ SetTable.below t.place nx = i + 1)) ∧ (i = es.size → r = none) := by
  cases hb : bt w with
  | true =>
    have ho : ordA w a ep es = pickOrder (w.params.setOrder a ep) es := if_pos hb
    refine ⟨((ordA w a ep es)[i]?).map fun e => (e.2, slot), fun B E' Q' h => ?_, fun hi => ?_, fun hi => ?_⟩
    · unfold setNext
      refine wpAny_bind (hS.state ?_)
      dsimp only
      refine wpAny_bind (wpAny_bind (wpAny_askSetting (wpAny_pure ?_)))
      refine wpAny_ite_split (fun _ => ?_) fun z => absurd hb z
      simp only [bne_self_eq_false, Bool.false_eq_true, if_false]
      refine wpAny_bind ?_
      unfold setWalk
      refine wpAny_bind (hS.state ?_)
      dsimp only
      refine wpAny_bind (wpAny_bind (wpAny_askSetting (wpAny_pure ?_)))
      refine wpAny_ite_split (fun _ => ?_) fun z => absurd hb z
      refine wpAny_bind (wpAny_askSetting (wpAny_pure (wpAny_pure ?_)))
      rw [ho] at h
      exact h
    · have hz : i < (ordA w a ep es).size := by rw [ordA_size]; exact hi
      exact ⟨_, slot, Array.getElem?_eq_getElem hz, by rw [Array.getElem?_eq_getElem hz]; rfl, .inl rfl⟩
    · rw [Array.getElem?_eq_none (by rw [ordA_size]; omega)]
      rfl
  | false =>
    have ho : ordA w a ep es = es := if_neg (by rw [hb]; decide)
    have hl : t.led = true := by rw [tk.led, hb]; rfl
    have nd : drw es t = false := nd.resolve_left (by rw [hb]; decide)
    have hc : SetTable.below t.place slot = i := hc.resolve_left (by rw [hb]; decide)
    have hps : t.place.size = es.size := by
      have := hS.fits
      unfold SetTable.fits at this
      simp only [Bool.and_eq_true, beq_iff_eq] at this
      exact this.1
    refine ⟨(match es[i]?, t.place[i]? with | some (_, x), some j => some (x, j + 1) | _, _ => none), fun B E' Q' h => ?_, fun hi => ?_, fun hi => ?_⟩
    · unfold setNext
      refine wpAny_bind (hS.state ?_)
      dsimp only
      refine wpAny_bind (wpAny_bind (wpAny_askSetting (wpAny_pure ?_)))
      refine wpAny_ite_split (fun z => absurd (hb.symm.trans z) (by decide)) fun _ => ?_
      refine wpAny_ite_split (fun z => absurd (show drw es t = true from z) (by rw [nd]; decide)) fun _ => ?_
      refine wpAny_bind ?_
      show wpAny _ _ (if (!t.led && !es.isEmpty) = true then unsupported "set:maker-not-led" else pure ()) _ _ _
      rw [hl, if_neg (by simp)]
      refine wpAny_pure (wpAny_pure ?_)
      rw [hc]
      exact h
    · have hp : i < t.place.size := by omega
      rw [ho]
      refine ⟨es[i], t.place[i] + 1, Array.getElem?_eq_getElem hi, ?_, .inr ?_⟩
      · rw [Array.getElem?_eq_getElem hi, Array.getElem?_eq_getElem hp]
      · have := below_next tk.rise hp
        simpa [Array.getD, hp] using this
    · rw [Array.getElem?_eq_none (by omega)]
end
end HT
namespace HT
open PySem PySem.Spec PyProof.Rows PySem.W
section
variable {prog : Program} {w : World} {A : Around} {E : Value → Shared → Prop} {s : Shared}
theorem set_self {I : Addr} {x : Value} {i : Nat} {a : Addr} {n ep : Nat} {Q : Value → Shared → Prop} (hI : SIt I x i a n ep s.heap) (h : Q (.ref I) s) : wpAny (model prog w) A (pyIter (.ref I)) Q E s := by
  refine wpAny_pyIter_slot hI.type slot_setit_iter (wpAny_call_entry slot_setit_iter hI.type ent_setit_iter ?_ (arg_setit_iter _))
  show wpAny _ _ (ret (.ref I)) _ _ s
  exact wpAny_pure ⟨_, rfl, "set_iterator", _, hI.type, slot_setit_next.lookup, h⟩
theorem walks1 (hh : A.handled = none) {I a : Addr} (hne : a ≠ I) {es : Array (Int × Value)} {ep : Nat} {t : SetTable} (tk : TOk (!bt w) t) (nd : bt w = true ∨ drw es t = false) :
    Walks prog w A I [I, a] [I] es.size (fun i v => ∃ e, (ordA w a ep es)[i]? = some e ∧ v = e.2) (fun i h => ∃ slot : Nat, SIt I (.int slot 0) i a es.size ep h ∧ RawS a es ep t h ∧ (bt w = true ∨ SetTable.below t.place slot = i)) where
  sub := fun b hb => by simp at hb; simp [hb]
  frame := fun _ _ _ ⟨slot, h1, h2, h3⟩ hk => ⟨slot, h1.to fun o e => hk I (by simp) o e, h2.to fun o e => hk a (by simp) o e, h3⟩
  item := fun i s Q E hi ⟨slot, h1, h2, h3⟩ hQ => by
    obtain ⟨r, hN, g, _⟩ := next_at (prog := prog) h2 tk nd h3
    obtain ⟨e, nx, he, hr, hc⟩ := g hi
    rw [hr] at hN
    exact set_item1 h1 h2 rfl hN fun h' hit hs => hQ _ h' s.toks ⟨e, he, rfl⟩ ⟨nx, hit, h2.to fun o e => hs.extBut a o hne e, hc⟩ fun b o hb e => hs.extBut b o (fun h => hb (by simp [h])) e
  done := fun s Q E ⟨slot, h1, h2, h3⟩ hQ => by
    obtain ⟨r, hN, _, g⟩ := next_at (prog := prog) h2 tk nd h3
    rw [g rfl] at hN
    exact set_end1 hh h1 h2 rfl hN fun h' he => hQ h' s.toks fun b o hb e => he b o (fun h => hb (by simp [h])) e
  self := fun _ _ _ _ ⟨slot, h1, _⟩ hQ => set_self h1 hQ
theorem walks2 (hh : A.handled = none) {I a tp : Addr} (hne : a ≠ I) (htp : tp ≠ I) {es : Array (Int × Value)} {ep nn : Nat} {t : SetTable} {ot : Obj} {js : List Nat} (hjl : js.length = es.size) (hjs : ∀ j ∈ js, j < es.size) (hit : ot.data = .seq (js.map fun (j : Nat) => rawInt j).toArray nn) :
    Walks prog w A I [I, a, tp] [I] es.size (fun i v => ∃ e, es[js.getD i 0]? = some e ∧ v = e.2) (fun i h => SIt I (.ref tp) i a es.size ep h ∧ RawS a es ep t h ∧ h.get? tp = some ot) where
  sub := fun b hb => by simp at hb; simp [hb]
  frame := fun _ _ _ ⟨h1, h2, h3⟩ hk => ⟨h1.to fun o e => hk I (by simp) o e, h2.to fun o e => hk a (by simp) o e, hk tp (by simp) _ h3⟩
  item := fun i s Q E hi ⟨h1, h2, h3⟩ hQ => by
    have hj : i < js.length := by omega
    have hg : js.getD i 0 = js[i] := by rw [List.getD_eq_getElem?_getD, List.getElem?_eq_getElem hj]; rfl
    have hlt : js.getD i 0 < es.size := by rw [hg]; exact hjs _ (List.getElem_mem _)
    refine set_item2 (place := js.getD i 0) (tk := 0) h1 h2 rfl h3 hit (by simp [hj, rawInt]) (Array.getElem?_eq_getElem hlt) fun h' hit' hs => hQ _ h' s.toks ⟨_, Array.getElem?_eq_getElem hlt, rfl⟩ ⟨hit', h2.to fun o e => hs.extBut a o hne e, hs.extBut tp _ htp h3⟩ fun b o hb e => hs.extBut b o (fun h => hb (by simp [h])) e
  done := fun s Q E ⟨h1, h2, h3⟩ hQ => set_end2 hh h1 h2 rfl h3 hit (by simp [hjl]) fun h' he => hQ h' s.toks fun b o hb e => he b o (fun h => hb (by simp [h])) e
  self := fun _ _ _ _ ⟨h1, _⟩ hQ => set_self h1 hQ
noncomputable def GoodP (es : Array (Int × Value)) (P : Nat → Value → Prop) : Prop := ∀ acc : Array Value, ItemsOf P acc es.size → acc.toList.Perm (es.toList.map (·.2))
theorem good1 (a : Addr) (ep : Nat) (es : Array (Int × Value)) : GoodP es (fun i v => ∃ e, (ordA w a ep es)[i]? = some e ∧ v = e.2) := by
  intro acc ⟨hz, ha⟩
  have e : acc.toList = (ordA w a ep es).toList.map (·.2) := by
    apply List.ext_getElem?
    intro i
    rw [List.getElem?_map, Array.getElem?_toList, Array.getElem?_toList]
    rcases Nat.lt_or_ge i acc.size with hi | hi
    · obtain ⟨e, he, hv⟩ := ha i acc[i] (Array.getElem?_eq_getElem hi)
      rw [he, Array.getElem?_eq_getElem hi, hv]
      rfl
    · rw [Array.getElem?_eq_none hi, Array.getElem?_eq_none (by rw [ordA_size]; omega)]
      rfl
  rw [e]
  exact (ordA_perm a ep es).map _
theorem good2 (es : Array (Int × Value)) {js : List Nat} (pj : js.Perm (List.range es.size)) : GoodP es (fun i v => ∃ e, es[js.getD i 0]? = some e ∧ v = e.2) := by
  intro acc ⟨hz, ha⟩
  have hjl : js.length = es.size := by rw [pj.length_eq, List.length_range]
  have e : acc.toList.map some = js.map fun j => (es[j]?).map (·.2) := by
    apply List.ext_getElem?
    intro i
    rw [List.getElem?_map, List.getElem?_map, Array.getElem?_toList]
    rcases Nat.lt_or_ge i acc.size with hi | hi
    · obtain ⟨e, he, hv⟩ := ha i acc[i] (Array.getElem?_eq_getElem hi)
      have hj : i < js.length := by omega
      have hg : js.getD i 0 = js[i] := by rw [List.getD_eq_getElem?_getD, List.getElem?_eq_getElem hj]; rfl
      rw [hg] at he
      rw [Array.getElem?_eq_getElem hi, List.getElem?_eq_getElem hj, hv]
      simp only [Option.map_some, he]
    · rw [Array.getElem?_eq_none hi, List.getElem?_eq_none (by omega)]
      rfl
  have p2 : (acc.toList.map some).Perm ((List.range es.size).map fun j => (es[j]?).map (·.2)) := by
    rw [e]
    exact pj.map _
  have e3 : ((List.range es.size).map fun j => (es[j]?).map (·.2)) = (es.toList.map (·.2)).map some := by
    apply List.ext_getElem?
    intro i
    simp only [List.getElem?_map, Array.getElem?_toList]
    rcases Nat.lt_or_ge i es.size with hi | hi
    · rw [List.getElem?_range hi, Array.getElem?_eq_getElem hi]
      simp [hi]
    · rw [List.getElem?_eq_none (by rw [List.length_range]; exact hi), Array.getElem?_eq_none hi]
      rfl
  rw [e3] at p2
  have := p2.filterMap id
  simpa [List.filterMap_map, Function.comp_def] using this
theorem set_iter {a : Addr} {es : Array (Int × Value)} {ep : Nat} {t : SetTable} {Q : Value → Shared → Prop} (hh : A.handled = none) (hS : RawS a es ep t s.heap) (tk : TOk (!bt w) t) (hz : es.size ≤ sizeLine)
    (h : ∀ (I : Addr) (h1 : Heap) (d1 : Drawn) (fp : List Addr) (P : Nat → Value → Prop) (St : Nat → Heap → Prop), s.heap.objs.size ≤ I → (∀ b o, s.heap.get? b = some o → h1.get? b = some o) → (∀ b ∈ fp, b = a ∨ s.heap.objs.size ≤ b) → Walks prog w A I fp [I] es.size P St → St 0 h1 → GoodP es P → Q (.ref I) { s with heap := h1, drawn := d1 }) :
    wpAny (model prog w) A (pyIter (.ref a)) Q E s := by
  have hT := hS.type
  have ha : a < s.heap.objs.size := by
    obtain ⟨⟨o, ho, _⟩, _⟩ := hS
    exact Heap.lt_size ho
  refine wpAny_pyIter_slot hT PySem.F.slot_set_iter (wpAny_call_entry PySem.F.slot_set_iter hT ent_set_iter ?_ (PySem.F.args_set_iter_1 _))
  unfold Builtin.«frozenset.__iter__» Builtin.Frozenset.slot0
  refine wpAny_bind (wpAny_bind (wpAny_pure (wpAny_pure ?_)))
  unfold Builtin.Frozenset.sizeOf setEntries
  refine wpAny_bind (wpAny_bind (wpAny_bind (hS.state (wpAny_pure (wpAny_pure ?_)))))
  dsimp only
  refine wpAny_bind ?_
  unfold setDrawn
  refine wpAny_bind (hS.state ?_)
  dsimp only
  refine wpAny_bind (wpAny_bind (wpAny_askSetting (wpAny_pure (wpAny_pure ?_))))
  refine wpAny_ite_split (fun z => ?_) fun z => ?_
  · have z : (!bt w && drw es t) = true := z
    rw [Bool.and_eq_true] at z
    refine wpAny_bind (draw_at _ _ _ (by rw [List.length_range]; exact Nat.le_refl _) fun js d pj => ?_)
    have hjl : js.length = es.size := by rw [pj.length_eq, List.length_range]
    refine wpAny_bind (wpAny_newTuple ?_ (by show (List.map _ js).length ≤ _; rw [List.length_map, hjl]; exact hz))
    have hS1 : RawS a es ep t (s.heap.push (seqObj "tuple" (js.map fun (j : Nat) => rawInt j).toArray 0)) := hS.to fun o e => Heap.get?_push_of_some _ e
    refine wpAny_bind ?_
    unfold setEpoch
    refine wpAny_bind (RawS.state (s := { s with heap := s.heap.push (seqObj "tuple" (js.map fun (j : Nat) => rawInt j).toArray 0), drawn := d }) hS1 (wpAny_pure ?_))
    refine wpAny_bind (wpAny_newObj_type (wpAny_pure ⟨_, rfl, "set_iterator", _, ⟨_, Heap.get?_push_size _ rfl, rfl⟩, slot_setit_next.lookup, ?_⟩))
    have hn1 : a ≠ (s.heap.push (seqObj "tuple" (js.map fun (j : Nat) => rawInt j).toArray 0)).objs.size := by rw [Heap.size_push]; exact Nat.ne_of_lt (Nat.lt_succ_of_lt ha)
    have hn2 : s.heap.objs.size ≠ (s.heap.push (seqObj "tuple" (js.map fun (j : Nat) => rawInt j).toArray 0)).objs.size := by rw [Heap.size_push]; exact Nat.ne_of_lt (Nat.lt_succ_self _)
    refine h _ _ d [(s.heap.push (seqObj "tuple" (js.map fun (j : Nat) => rawInt j).toArray 0)).objs.size, a, s.heap.objs.size] _ _ (by rw [Heap.size_push]; exact Nat.le_succ _) (fun b o e => Heap.get?_push_of_some _ (Heap.get?_push_of_some _ e)) (fun b hb => ?_) (walks2 (ot := seqObj "tuple" (js.map fun (j : Nat) => rawInt j).toArray 0) (nn := 0) hh hn1 hn2 hjl (fun j hj => List.mem_range.mp (pj.mem_iff.mp hj)) rfl)
      ⟨⟨_, Heap.get?_push_size _ rfl, rfl, rfl⟩, hS1.to fun o e => Heap.get?_push_of_some _ e, Heap.get?_push_of_some _ (Heap.get?_push_size _ rfl)⟩ (good2 es pj)
    simp only [List.mem_cons, List.not_mem_nil, or_false] at hb
    rcases hb with rfl | rfl | rfl
    · right; rw [Heap.size_push]; exact Nat.le_succ _
    · exact .inl rfl
    · exact .inr (Nat.le_refl _)
  · have z : ¬ ((!bt w && drw es t) = true) := z
    have nd : bt w = true ∨ drw es t = false := by
      cases hb : bt w with
      | true => exact .inl rfl
      | false =>
        cases hd : drw es t with
        | false => exact .inr rfl
        | true => exact absurd (by rw [hb, hd]; rfl) z
    refine wpAny_bind (wpAny_pure ?_)
    refine wpAny_bind ?_
    unfold setEpoch
    refine wpAny_bind (hS.state (wpAny_pure ?_))
    refine wpAny_bind (wpAny_newObj_type (wpAny_pure ⟨_, rfl, "set_iterator", _, ⟨_, Heap.get?_push_size _ rfl, rfl⟩, slot_setit_next.lookup, ?_⟩))
    refine h _ _ s.drawn [s.heap.objs.size, a] _ _ (Nat.le_refl _) (fun b o e => Heap.get?_push_of_some _ e) (fun b hb => ?_) (walks1 hh (Nat.ne_of_lt ha) tk nd) ⟨0, ⟨_, Heap.get?_push_size _ rfl, rfl, rfl⟩, hS.to fun o e => Heap.get?_push_of_some _ e, .inr (below_zero tk.rise)⟩ (good1 a ep es)
    simp only [List.mem_cons, List.not_mem_nil, or_false] at hb
    rcases hb with rfl | rfl
    · exact .inr (Nat.le_refl _)
    · exact .inl rfl
theorem set_hint {a : Addr} {Q : Bool → Shared → Prop} (hT : s.TypeIs (.ref a) "set") (h : Q false s) : wpAny (model prog w) A (Builtin.List.listLengthHint (.ref a)) Q E s := by
  unfold Builtin.List.listLengthHint
  refine wpAny_bind (wpAny_specialOf hT PySem.F.slot_set_len.lookup ?_)
  generalize hid : ("set.__len__" : String) = id0
  wp_delta
  rw [show splitId id0 = some ("set", "__len__") from by subst hid; decide +kernel]
  subst hid
  refine wpAny_bind (wpAny_isInstance (T := "set") (b := true) hT (by rw [isSubtype_type]; kernel_rfl) ?_)
  refine wpAny_ite_split (fun hab => absurd hab (by decide)) (fun _ => ?_)
  refine wpAny_ite_split (fun _ => wpAny_bind (wpAny_typeOf hT ?_)) (fun hab => absurd (by decide +kernel) hab)
  exact wpAny_pure h
end
end HT
namespace HT
open PySem PySem.Spec PyProof.Rows PySem.W
section
variable {prog : Program} {w : World} {A : Around} {E : Value → Shared → Prop} {s : Shared}
theorem set_extend {a S : Addr} {es : Array (Int × Value)} {ep c₀ : Nat} {t : SetTable} {res : Value} {R : Result → Shared → Prop} (hh : A.handled = none) (hS : RawS a es ep t s.heap) (tk : TOk (!bt w) t) (hz : es.size ≤ sizeLine) (hSa : S ≠ a) (hL : s.heap.get? S = some { cls := .type "list", data := .seq #[] c₀ })
    (hR : ∀ h' k d acc c', (∀ b o, b ≠ S → s.heap.get? b = some o → h'.get? b = some o) → h'.get? S = some { cls := .type "list", dict := none, data := .seq acc c', slots := #[] } → acc.toList.Perm (es.toList.map (·.2)) → R (.ok (.ret res)) { s with heap := h', toks := k, drawn := d }) :
    wpAny (model prog w) A.in1 (Builtin.List.listExtendWith (.ref S) (.ref a) res)
      (fun fin s' => match fin with | .done f => R (.ok f) s' | .again c' => c'.quiet = true ∧ codeAny (model prog w) A c' R s') (fun e s' => R (.error e) s') s := by
  have hlt : S < s.heap.objs.size := Heap.lt_size hL
  unfold Builtin.List.listExtendWith
  refine wpAny_bind (wpAny_typeOf hS.type ?_)
  have n1 : Builtin.List.listSameRef (.ref S) (.ref a) = false := by simp [Builtin.List.listSameRef, hSa]
  have n2 : (Value.type "set" == Value.type "list") = false := by decide
  have n3 : (Value.type "set" == Value.type "tuple") = false := by decide
  simp only [n1, n2, n3, Bool.or_false, Bool.false_eq_true, if_false]
  refine wpAny_bind (set_iter (A := A.in1) hh hS tk hz fun I h1 d1 fp P St hI k1 hfp W st gp => ?_)
  have hSf : S ∉ fp := fun z => by
    rcases hfp S z with e | e
    · exact hSa e
    · exact absurd hlt (Nat.not_lt.mpr e)
  have key : ∀ (h : Heap) (c₁ q : Nat), St 0 h → (∀ b o, b ≠ S → s.heap.get? b = some o → h.get? b = some o) → h.get? S = some { cls := .type "list", data := .seq #[] c₁ } →
      codeAny (model prog w) A (.builtin "list.extend.loop" ⟨[.ref S, .ref I, res], []⟩) R { s with heap := h, toks := q, drawn := d1 } := by
    intro h c₁ q hst hk hS₁
    refine codeAny_extend_loopS W.toS hz S hSf res es.size 0 _ #[] c₁ rfl (Nat.zero_le _) hst hS₁ (ItemsOf.nil _) fun s' acc c' hm hS' hacc => ?_
    rw [Moved.eq_with hm]
    refine hR s'.heap s'.toks d1 acc c' (fun b o hb e => hm.heap b o (fun hmem => ?_) (hk b o hb e)) hS' (gp acc hacc)
    rcases List.mem_cons.mp hmem with e' | hmem
    · exact hb e'
    · have := Heap.lt_size e
      rw [List.mem_singleton.mp hmem] at this
      exact absurd this (Nat.not_lt.mpr hI)
  have hS₁ := k1 _ _ hL
  refine wpAny_bind (wpAny_holding (set_hint (s := { s with heap := h1, drawn := d1 }) ((hS.to fun o e => k1 _ _ e).type (s := { s with heap := h1, drawn := d1 })) ?_))
  refine wpAny_ite_split (fun _ => ?_) (fun _ => wpAny_pure ⟨plainId_quiet PySem.F.plain_extend_loop _, key _ c₀ _ st (fun b o _ e => k1 b o e) hS₁⟩)
  refine wpAny_bind (wpAny_rule (wpAny_bind ?_))
  show wpAny _ _ (updateSeq S (·.push .none) >>= fun _ => updateSeq S (·.pop)) _ _ _
  refine wpAny_bind (wpAny_updateSeq hS₁ rfl ?_)
  have hS₂ := Heap.get?_update_self (Obj.mapSeq (·.push Value.none)) hS₁ rfl
  refine wpAny_updateSeq (hz := by seq_fits) hS₂ rfl ?_
  have hS₃ := Heap.get?_update_self (Obj.mapSeq (·.pop)) hS₂ rfl
  refine wpAny_pure ⟨plainId_quiet PySem.F.plain_extend_loop _, key _ _ _ ?_ (fun b o hb e => ?_) hS₃⟩
  · refine W.frame 0 _ _ st fun b hb o e => ?_
    have hbS : S ≠ b := fun h => hSf (h ▸ hb)
    exact (Heap.get?_update_other _ _ hbS).trans ((Heap.get?_update_other _ _ hbS).trans e)
  · exact (Heap.get?_update_other _ _ (Ne.symm hb)).trans ((Heap.get?_update_other _ _ (Ne.symm hb)).trans (k1 b o e))
theorem set_collect {a : Addr} {ks : List Int} {R : List Value → Shared → Prop} (hh : A.handled = none) (hS : WSet prog w a ks s.heap)
    (h : ∀ (h' : Heap) (k : Nat) (d : Drawn) (vs : List Value) (ms : List Int), (∀ b o, s.heap.get? b = some o → h'.get? b = some o) → IntsAre vs ms → ms.Perm ks → R vs { s with heap := h', toks := k, drawn := d }) :
    wpAny (model prog w) A (collect (.ref a)) R E s := by
  obtain ⟨o, es, ep, t, ho, hx, hd, hel, pm, nd, hb, hf, tk⟩ := hS
  have hr : RawS a es ep t s.heap := ⟨⟨o, ho, hx, hd⟩, hf⟩
  have ha : a < s.heap.objs.size := Heap.lt_size ho
  have asInts : ∀ vs : List Value, vs.Perm (es.toList.map (·.2)) → ∃ ms, IntsAre vs ms ∧ ms.Perm ks := by
    intro vs pv
    refine ⟨vs.map fun v => kOf (0, v), ?_, ?_⟩
    · have all : ∀ v ∈ vs, ∃ k t, v = .int k t := fun v hv => by
        obtain ⟨e, he, rfl⟩ := List.mem_map.mp (pv.mem_iff.mp hv)
        obtain ⟨k, t, e1, _⟩ := elem_key hel he
        exact ⟨k, t, e1⟩
      clear pv
      induction vs with
      | nil => exact .nil
      | cons v vs ih =>
        obtain ⟨k, t, rfl⟩ := all v (List.mem_cons_self ..)
        exact .cons k t (ih fun x hx => all x (List.mem_cons_of_mem _ hx))
    · refine ((pv.map _).trans ?_).trans pm
      rw [List.map_map]
      exact List.Perm.of_eq (List.map_congr_left fun e _ => rfl)
  unfold collect
  refine wpAny_bind (wpAny_runValue (codeAny_builtin entry_proto_collect' ?_))
  rw [Around.under_plainId PySem.F.plain_proto_collect _]
  show wpAny _ A.in1 (newList [] >>= fun l => again (.builtin "list.__iadd__" ⟨[l, .ref a], []⟩)) _ _ s
  refine wpAny_bind (wpAny_newObj_type ?_)
  refine wpAny_pure ⟨plainId_quiet PySem.F.plain_list_iadd _, codeAny_builtin entry_list_iadd' ?_⟩
  rw [Around.under_plainId PySem.F.plain_list_iadd _]
  have hL : (s.heap.push { cls := .type "list", data := .seq ([] : List Value).toArray }).get? s.heap.objs.size = some { cls := .type "list", data := .seq #[] } := Heap.get?_push_size _ rfl
  show wpAny _ A.in1 (Builtin.List.listExtendWith (.ref s.heap.objs.size) (.ref a) (.ref s.heap.objs.size)) _ _ _
  have key := set_extend (prog := prog) (A := A) (w := w) (s := { s with heap := s.heap.push { cls := .type "list", data := .seq ([] : List Value).toArray } }) (res := .ref s.heap.objs.size)
    (R := fun (q : Result) (s' : Shared) => ∃ (h' : Heap) (k : Nat) (d : Drawn) (acc : Array Value) (c' : Nat), q = .ok (.ret (.ref s.heap.objs.size)) ∧ s' = { s with heap := h', toks := k, drawn := d } ∧
      (∀ b o, s.heap.get? b = some o → h'.get? b = some o) ∧ h'.get? s.heap.objs.size = some { cls := .type "list", dict := none, data := .seq acc c', slots := #[] } ∧ acc.toList.Perm (es.toList.map (·.2)))
    hh (hr.to fun o e => Heap.get?_push_of_some _ e) tk (fits_of_scanBound hb) (Nat.ne_of_gt ha) hL
    (fun h' k d acc c' hk hS' p => ⟨h', k, d, acc, c', rfl, rfl, fun b o e => hk b o (Nat.ne_of_lt (Heap.lt_size e)) (Heap.get?_push_of_some _ e), hS', p⟩)
  refine wpAny_mono key (fun fin s' x => ?_) fun e s' x => ?_
  · cases fin with
    | done f =>
      obtain ⟨h', k, d, acc, c', e, rfl, hk, hS', p⟩ := x
      cases e
      obtain ⟨ms, i1, i2⟩ := asInts _ p
      show wpAny _ A (load s.heap.objs.size >>= _) _ _ _
      refine wpAny_bind (wpAny_load hS' ?_)
      exact wpAny_pure (h h' k d _ ms hk i1 i2)
    | again c₁ =>
      refine ⟨x.1, codeAny_mono x.2 fun q s₂ y => ?_⟩
      obtain ⟨h', k, d, acc, c', rfl, rfl, hk, hS', p⟩ := y
      obtain ⟨ms, i1, i2⟩ := asInts _ p
      show wpAny _ A (load s.heap.objs.size >>= _) _ _ _
      refine wpAny_bind (wpAny_load hS' ?_)
      exact wpAny_pure (h h' k d _ ms hk i1 i2)
  · obtain ⟨_, _, _, _, _, e', _⟩ := x
    cases e'
end
end HT
namespace L2
open PySem PySem.Spec PyProof.Rows PySem.W
noncomputable def SetAt (X : Cx) (H : Hp) (p : Addr) (ks : List Int) : Prop := H p = some (.ext (HT.WSet X.prog X.w p ks))
noncomputable def rSetO (X : Cx) : List V → Hp → VK → Prop := fun xs H Q => ∃ (p : Addr) (ns : List Int), xs = [.ref p] ∧ SqL X.K H p (ns.map V.int) ∧ ns.length < 1000 ∧ ∀ l, H l = none → Q (.ref l) (upd H l (.ext (HT.WSet X.prog X.w l (HT.metK ns))))
theorem k_setO {X : Cx} (hc : X.calm = true) : CallR X (.type "set") (rSetO X) := by
  intro pins s σ H xs us Q I r h
  obtain ⟨p, ns, rfl, hq, hl, q⟩ := h
  obtain ⟨u, rfl, rx⟩ := vals1 r
  cases rx
  obtain ⟨its, r', pl, hz⟩ := I.list hq
  have hlen : its.length = ns.length := by have := r'.length; simpa using this.symm
  refine HT.set_call (ns := ns) (I.ok.hd hc) pl.isList (intsAre_of r') (by rw [List.size_toArray]; show its.length + 1 < 4096; omega) fun h' tk W k => ?_
  refine ⟨.ref s.heap.objs.size, _, I.laid (t' := tk) k (Nat.le_refl _) ?_, rfl, q _ (I.hok.fresh (Nat.le_refl _))⟩
  refine ⟨W, ?_, fun h1 h2 w1 k1 => w1.to k1⟩
  obtain ⟨o, _, _, _, ho, _⟩ := W
  exact ⟨o, ho⟩
noncomputable def rSortS (X : Cx) : List V → Hp → VK → Prop := fun xs H Q => ∃ (p : Addr) (ks : List Int), xs = [.ref p] ∧ SetAt X H p ks ∧ ks.length < 64 ∧ ∀ (l : Addr) (ms : List Int), H l = none → ms.Perm ks → ms.Pairwise (· ≤ ·) → Q (.ref l) (upd H l (.lst (ms.map V.int)))
theorem Inv.drew {X : Cx} {pins : List (Addr × Obj)} {σ : St} {H : Hp} {s : Shared} (I : Inv X pins σ H s) (d : Drawn) : Inv X pins σ H { s with drawn := d } :=
  ⟨I.ok, I.os, I.bare, I.base, I.loc, I.cell, I.free, I.freeC, I.pin, I.hok, I.len⟩
theorem k_sortedS {X : Cx} (hc : X.calm = true) : CallR X (.builtin "sorted") (rSortS X) := by
  intro pins s σ H xs us Q I r h
  obtain ⟨p, ks, rfl, hp, hl, q⟩ := h
  obtain ⟨u, rfl, rx⟩ := vals1 r
  cases rx
  obtain ⟨W, _, _⟩ := I.hok _ _ hp
  refine Calls.call_function_entry kind_sorted plain_sorted entry_sorted (args_sorted1 _) ?_
  show wpAny _ _ (checkCount "sorted" 1 1 1 >>= fun _ => collect (.ref p) >>= fun xs => newList xs >>= fun l => holding [l] (call (.builtin "list.sort") [l] []) >>= fun _ => ret l) _ _ _
  rw [sorted_count]
  refine wpAny_bind (wpAny_pure ?_)
  refine wpAny_bind (HT.set_collect (A := X.A.in1) (I.ok.hd hc) W fun h1 k d its ns k1 iv pk => ?_)
  have I1 := (I.kept (t' := k) k1).drew d
  have hlen : its.length = ks.length := by rw [iv.length, pk.length_eq]
  refine wpAny_bind (wpAny_newList ?_ ?_)
  · refine wpAny_bind (wpAny_holding ?_)
    have hg : (h1.push { cls := Value.type "list", data := Data.seq its.toArray }).get? h1.objs.size = some (seqObj "list" its.toArray 0) := Heap.get?_push_size _ rfl
    refine wpAny_call_entry slot_list_sort ⟨_, hg, rfl⟩ entry_list_sort ?_ (args_list_sort _)
    refine list_sort_tree (vs := its) (ns := ns) hg iv (by omega) fun out ns' io pm pw => ?_
    refine ⟨_, rfl, ?_⟩
    refine wpAny_pure ⟨_, rfl, ?_⟩
    obtain ⟨e, he⟩ := sortedHeap_at (out := out) hg
    refine ⟨.ref h1.objs.size, _, I1.laid (t' := k) (o := .lst (ns'.map V.int)) (fun b ob z => ?_) (Nat.le_refl _) ?_, rfl, q _ ns' (I1.hok.fresh (Nat.le_refl _)) (pm.trans pk) pw⟩
    · have hb := Heap.lt_size z
      have hsz : b < (h1.push { cls := Value.type "list", data := Data.seq its.toArray }).objs.size := Nat.lt_trans hb (Heap.lt_size hg)
      show (sortedHeap _ _ _ _).get? b = _
      rw [sortedHeap_old (Nat.ne_of_lt hb) hsz]
      exact Heap.get?_push_of_some _ z
    · refine ⟨?_, out.toList, e, vals_of_ints io, ?_⟩
      · rw [List.length_map, pm.length_eq, pk.length_eq]
        exact Nat.le_trans (Nat.le_of_lt hl) (by decide)
      · show (sortedHeap _ _ _ _).get? _ = _
        rw [he]
  · exact Nat.le_trans (show its.length ≤ 64 by omega) (by decide)
theorem rd_setO {X : Cx} {K : PySem.W.Frag} {H : Hp} {Q : VK} {p : Addr} {ns : List Int} (hK : X.K = K) (c : SqL K H p (ns.map V.int)) (n : ns.length < 1000) (h : ∀ l, H l = none → Q (.ref l) (upd H l (.ext (HT.WSet X.prog X.w l (HT.metK ns))))) : rSetO X [.ref p] H Q := by
  subst hK
  exact ⟨p, ns, rfl, c, n, h⟩
theorem rd_sortS {X : Cx} {H : Hp} {Q : VK} {p : Addr} {ks : List Int} (c : H p = some (.ext (HT.WSet X.prog X.w p ks))) (n : ks.length < 64) (h : ∀ (l : Addr) (ms : List Int), H l = none → ms.Perm ks → ms.Pairwise (· ≤ ·) → Q (.ref l) (upd H l (.lst (ms.map V.int)))) : rSortS X [.ref p] H Q := ⟨p, ks, rfl, c, n, h⟩
end L2
namespace L2
open PySem PySem.Spec PyProof.Rows
theorem argBest_least (f : Nat → Int) : ∀ n, argBest (fun i j => decide (f i < f j)) n ≤ n ∧ ∀ i, i ≤ n → f (argBest (fun i j => decide (f i < f j)) n) ≤ f i
  | 0 => ⟨by simp [argBest], fun i hi => by simp [argBest]; rw [Nat.le_zero.mp hi]; exact Int.le_refl _⟩
  | n + 1 => by
    obtain ⟨h1, h2⟩ := argBest_least f n
    unfold argBest
    by_cases c : f (n + 1) < f (argBest (fun i j => decide (f i < f j)) n)
    · rw [if_pos (decide_eq_true c)]
      refine ⟨Nat.le_refl _, fun i hi => ?_⟩
      rcases Nat.lt_or_ge i (n + 1) with z | z
      · have := h2 i (by omega)
        omega
      · rw [show i = n + 1 by omega]
        exact Int.le_refl _
    · rw [if_neg (by simpa using c)]
      refine ⟨by omega, fun i hi => ?_⟩
      rcases Nat.lt_or_ge i (n + 1) with z | z
      · exact h2 i (by omega)
      · rw [show i = n + 1 by omega]
        omega
noncomputable def rMinL (K : PySem.W.Frag) : List V → Hp → VK → Prop := fun xs H Q => ∃ (p : Addr) (ns : List Int), xs = [.ref p] ∧ SqL K H p (ns.map V.int) ∧ ns ≠ [] ∧ ∀ M, M ∈ ns → (∀ a ∈ ns, M ≤ a) → Q (.int M) H
noncomputable def rAny (K : PySem.W.Frag) : List V → Hp → VK → Prop := fun xs H Q => ∃ (p : Addr) (bs : List Bool), xs = [.ref p] ∧ SqL K H p (bs.map V.bl) ∧ Q (.bl (bs.any id)) H
section
variable {X : Cx} {K : PySem.W.Frag}
theorem k_minL (hK : X.K = K := by rfl) (hc : X.calm = true := by rfl) : CallR X (.builtin "min") (rMinL K) := by
  subst hK
  intro pins s σ H xs us Q I r h
  obtain ⟨p, ns, rfl, hq, hn, q⟩ := h
  obtain ⟨u, rfl, rx⟩ := vals1 r
  cases rx
  obtain ⟨its, rv, pl, _⟩ := I.list hq
  obtain ⟨ps, e⟩ := (IntsAre.allInts (intsAre_of rv)).items
  have e' : its = ps.toList.map fun p => Value.int p.1 p.2 := by
    have := congrArg Array.toList e
    simpa [intItems] using this
  have hl := pl.isList
  rw [e] at hl
  have ef : ps.toList.map (·.1) = ns := fst_of_ints (ns := ns) (l := ps.toList) (by rw [← e']; exact rv)
  have hsz : ps.size = ns.length := by rw [← ef]; simp
  have hpos : 0 < ns.length := List.length_pos_iff.mpr hn
  have na : ∀ i, i < ps.size → numAt ps i = ns.getD i 0 := fun i hi => by
    rw [← ef]
    unfold numAt
    simp [List.getD_eq_getElem?_getD, hi]
  refine min_intList (I.ok.hd hc) hl (by omega) fun v h' tk hv hk => ?_
  obtain ⟨b1, b2⟩ := argBest_least (numAt ps) (ps.size - 1)
  generalize argBest (fun i j => decide (numAt ps i < numAt ps j)) (ps.size - 1) = k at hv b1 b2
  have hk' : k < ps.size := by omega
  have ev : v = Value.int (numAt ps k) (ps[k]).2 := by
    unfold intItems at hv
    simp [hk'] at hv
    rw [← hv]
    unfold numAt
    simp [hk']
  subst ev
  refine ⟨.int (numAt ps k), H, I.kept hk, ⟨_, rfl⟩, q _ ?_ ?_⟩
  · rw [na k hk']
    exact getD_mem (by omega)
  · intro a ha
    obtain ⟨i, hi, rfl⟩ := List.getElem_of_mem ha
    have := b2 i (by omega)
    rw [na i (by omega), getD_el hi] at this
    exact this
theorem any_range (bs : List Bool) : (List.range bs.length).any (fun i => bs.getD i true) = bs.any id := by
  rw [Bool.eq_iff_iff, List.any_eq_true, List.any_eq_true]
  constructor
  · rintro ⟨i, hi, h⟩
    have hi := List.mem_range.mp hi
    refine ⟨bs[i], List.getElem_mem hi, ?_⟩
    rw [List.getD_eq_getElem?_getD, List.getElem?_eq_getElem hi] at h
    exact h
  · rintro ⟨b, hb, h⟩
    obtain ⟨i, hi, rfl⟩ := List.mem_iff_getElem.mp hb
    refine ⟨i, List.mem_range.mpr hi, ?_⟩
    rw [List.getD_eq_getElem?_getD, List.getElem?_eq_getElem hi]
    exact h
theorem k_any (hK : X.K = K := by rfl) (hc : X.calm = true := by rfl) : CallR X (.builtin "any") (rAny K) := by
  subst hK
  intro pins s σ H xs us Q I r h
  obtain ⟨p, bs, rfl, hq, q⟩ := h
  obtain ⟨u, rfl, rx⟩ := vals1 r
  cases rx
  obtain ⟨its, rv, pl, _⟩ := I.list hq
  have hl := rv.length
  rw [List.length_map] at hl
  obtain ⟨o, ho, _⟩ := id pl.isList
  have hne : p ≠ s.heap.objs.size := Nat.ne_of_lt (Heap.lt_size ho)
  refine call_any_walk (wpAny_pyIter_list pl.isList ?_)
  refine ⟨s.heap.objs.size, _, _, _, _, _, fun i => bs.getD i true, rfl, Walks.list (A := X.A.in1) (I.ok.hd hc) _ p hne its.toArray, ⟨⟨_, Heap.get?_push_size _ rfl, rfl, rfl⟩, pl.isList.at fun o e => Heap.get?_push_of_some _ e⟩, ?_, fun h' tk hk => ?_⟩
  · intro i v s' Q' E' hv hQ'
    have hv : its[i]? = some v := by simpa using hv
    have hi : i < bs.length := by rw [hl]; exact (List.getElem?_eq_some_iff.mp hv).1
    obtain ⟨u, hu, ru⟩ := rv.get (i := i) (x := .bl (bs.getD i true)) (by rw [List.getElem?_map, List.getD_eq_getElem?_getD, List.getElem?_eq_getElem hi]; rfl)
    rw [hu] at hv
    cases hv
    cases ru
    exact wpAny_truthy_bool hQ'
  · have e : its.toArray.size = bs.length := by rw [List.size_toArray]; exact hl.symm
    rw [e, any_range]
    exact ⟨.bl _, H, I.kept fun b o e => hk b o (fun z => by simp at z; exact absurd (Heap.lt_size e) (by rw [z]; exact Nat.lt_irrefl _)) (Heap.get?_push_of_some _ e), rfl, q⟩
end
theorem rd_minL {K : PySem.W.Frag} {H : Hp} {Q : VK} {p : Addr} {ns : List Int} (c : SqL K H p (ns.map V.int)) (n : ns ≠ []) (h : ∀ M, M ∈ ns → (∀ a ∈ ns, M ≤ a) → Q (.int M) H) : rMinL K [.ref p] H Q := ⟨p, ns, rfl, c, n, h⟩
theorem rd_any {K : PySem.W.Frag} {H : Hp} {Q : VK} {p : Addr} {bs : List Bool} (c : SqL K H p (bs.map V.bl)) (h : Q (.bl (bs.any id)) H) : rAny K [.ref p] H Q := ⟨p, bs, rfl, c, h⟩
end L2
namespace MTies
noncomputable def wn (t l : Nat) : Bool := decide (t ||| l = l)
noncomputable def toldB (T : List Nat) (l : Nat) : Bool := decide (MM.uOf (T.filter (wn · l)) = l)
noncomputable def mk (T L : List Nat) : Bool := L.all (toldB T)
noncomputable def Rz : Nat → List Nat → Prop
  | _, [] => True
  | a, x :: R => a ≤ x ∧ x < 16 ∧ Rz (x + 1) R
noncomputable def frst (T : List Nat) : Nat := match T.getLast? with
  | some x => x + 1
  | none => 1
noncomputable def ext : Nat → List Nat → List (List Nat)
  | 0, T => [T]
  | n + 1, T => (List.range' (frst T) (16 - frst T)).flatMap fun t => ext n (T ++ [t])
theorem frst_snoc (T : List Nat) (t : Nat) : frst (T ++ [t]) = t + 1 := by simp [frst]
theorem rz_weak : ∀ {R : List Nat} {a b : Nat}, a ≤ b → Rz b R → Rz a R
  | [], _, _, _, _ => trivial
  | _ :: _, _, _, h, ⟨h1, h2, h3⟩ => ⟨Nat.le_trans h h1, h2, h3⟩
theorem rz_ge : ∀ {R : List Nat} {a : Nat}, Rz a R → ∀ r ∈ R, a ≤ r ∧ r < 16
  | [], _, _, r, h => nomatch h
  | x :: R, a, ⟨h1, h2, h3⟩, r, h => by
    rcases List.mem_cons.mp h with rfl | h
    · exact ⟨h1, h2⟩
    · have := rz_ge h3 r h
      exact ⟨by omega, this.2⟩
theorem rz_app : ∀ {T R : List Nat} {a : Nat}, Rz a (T ++ R) ↔ Rz a T ∧ Rz (match T.getLast? with | some x => x + 1 | none => a) R
  | [], R, a => by simp [Rz]
  | x :: T, R, a => by
    have ih := @rz_app T R (x + 1)
    simp only [List.cons_append, Rz, ih]
    cases T with
    | nil => simp [Rz]; exact and_assoc.symm
    | cons y T =>
      simp only [List.getLast?_cons_cons, and_assoc]
      cases hg : (y :: T).getLast? with
      | none => simp at hg
      | some z => simp [and_assoc]
theorem rz_snoc {T : List Nat} {t : Nat} : Rz 1 (T ++ [t]) ↔ Rz 1 T ∧ frst T ≤ t ∧ t < 16 := by
  rw [rz_app]
  simp [Rz, frst]
theorem ext_mem : ∀ {n : Nat} {T S : List Nat}, S ∈ ext n T ↔ ∃ R, R.length = n ∧ Rz (frst T) R ∧ S = T ++ R
  | 0, T, S => by
    simp only [ext, List.mem_singleton]
    exact ⟨fun h => ⟨[], rfl, trivial, by simp [h]⟩, fun ⟨R, h1, _, h3⟩ => by rw [h3, List.length_eq_zero_iff.mp h1, List.append_nil]⟩
  | n + 1, T, S => by
    simp only [ext, List.mem_flatMap, List.mem_range'_1]
    constructor
    · rintro ⟨t, ht, hS⟩
      obtain ⟨R, h1, h2, h3⟩ := ext_mem.mp hS
      rw [frst_snoc] at h2
      exact ⟨t :: R, by simp [h1], ⟨ht.1, by omega, h2⟩, by rw [h3, List.append_assoc]; rfl⟩
    · rintro ⟨R, h1, h2, h3⟩
      cases R with
      | nil => cases h1
      | cons t R =>
        obtain ⟨g1, g2, g3⟩ := h2
        refine ⟨t, ⟨g1, by omega⟩, ext_mem.mpr ⟨R, by simpa using h1, by rw [frst_snoc]; exact g3, by rw [h3, List.append_assoc]; rfl⟩⟩
theorem uOf_app (A B : List Nat) : MM.uOf (A ++ B) = MM.uOf A ||| MM.uOf B := by
  apply Nat.eq_of_testBit_eq
  intro i
  rw [MM.uOf_bit, Nat.testBit_or, MM.uOf_bit, MM.uOf_bit, List.any_append]
theorem uOf_wn (l : Nat) (B : List Nat) (h : ∀ b ∈ B, wn b l = true) : MM.uOf B ||| l = l := by
  apply Nat.eq_of_testBit_eq
  intro i
  rw [Nat.testBit_or, MM.uOf_bit]
  cases hl : l.testBit i with
  | true => simp
  | false =>
    simp only [Bool.or_false, List.any_eq_false]
    intro b hb
    have := congrArg (Nat.testBit · i) (of_decide_eq_true (h b hb))
    simp only [Nat.testBit_or, hl, Bool.or_false] at this
    rw [this]
    decide
theorem wn_le {t l : Nat} (h : wn t l = true) : t ≤ l := by
  have := of_decide_eq_true h
  rw [← this]
  exact Nat.left_le_or
theorem told_more {T R : List Nat} {l : Nat} (h : toldB T l = true) : toldB (T ++ R) l = true := by
  unfold toldB at *
  have h := of_decide_eq_true h
  refine decide_eq_true ?_
  rw [List.filter_append, uOf_app, h, Nat.or_comm]
  exact uOf_wn _ _ fun b hb => (List.mem_filter.mp hb).2
theorem told_skip {T R : List Nat} {l : Nat} (h : ∀ r ∈ R, wn r l = false) : toldB (T ++ R) l = toldB T l := by
  unfold toldB
  rw [List.filter_append, List.filter_eq_nil_iff (l := R) |>.mpr (fun r hr => by rw [h r hr]; decide), List.append_nil]
noncomputable def minL : List Nat → Nat
  | [] => 0
  | [x] => x
  | x :: y :: l => min x (minL (y :: l))
theorem minL_mem : ∀ {l : List Nat}, l ≠ [] → minL l ∈ l
  | [], h => absurd rfl h
  | [x], _ => by simp [minL]
  | x :: y :: l, _ => by
    have := @minL_mem (y :: l) (by simp)
    unfold minL
    rcases Nat.le_total x (minL (y :: l)) with h | h
    · rw [Nat.min_eq_left h]; simp
    · rw [Nat.min_eq_right h]; exact List.mem_cons_of_mem _ this
noncomputable def search : Nat → List Nat → List Nat → Option (List Nat)
  | n, T, L => if (L.filter fun l => !toldB T l) = [] then some T else match n with
    | 0 => none
    | n + 1 => (List.range' (frst T) (minL (L.filter fun l => !toldB T l) + 1 - frst T)).findSome? fun t => if (L.filter fun l => !toldB T l).any (wn t ·) = true then search n (T ++ [t]) (L.filter fun l => !toldB T l) else none
theorem findSome_none {α β : Type} {f : α → Option β} {l : List α} (h : ∀ x ∈ l, f x = none) : l.findSome? f = none := List.findSome?_eq_none_iff.mpr h
theorem findSome_congr {α β : Type} {f g : α → Option β} : ∀ {l : List α}, (∀ x ∈ l, f x = g x) → l.findSome? f = l.findSome? g
  | [], _ => rfl
  | x :: l, h => by
    simp only [List.findSome?_cons]
    rw [h x (List.mem_cons_self ..), findSome_congr fun y hy => h y (List.mem_cons_of_mem _ hy)]
theorem search_eq {K : List Nat} (hK : ∀ k ∈ K, k < 16) : ∀ (n : Nat) (T L : List Nat), Rz 1 T → (∀ l ∈ L, l ∈ K) → (∀ k ∈ K, k ∈ L ∨ toldB T k = true) →
    (∀ R : List Nat, R.length < T.length + n → Rz 1 R → mk R K = false) → search n T L = (ext n T).find? (mk · K) := by
  intro n
  induction n with
  | zero =>
    intro T L rT sub cov hmin
    unfold search
    by_cases hU : (L.filter fun l => !toldB T l) = []
    · rw [if_pos hU]
      have hm : mk T K = true := List.all_eq_true.mpr fun k hk => by
        rcases cov k hk with h | h
        · have := List.filter_eq_nil_iff.mp hU k h
          simpa using this
        · exact h
      simp [ext, hm]
    · rw [if_neg hU]
      obtain ⟨u, hu⟩ := List.exists_mem_of_ne_nil _ hU
      obtain ⟨h1, h2⟩ := List.mem_filter.mp hu
      have hm : mk T K = false := by
        cases h : mk T K with
        | false => rfl
        | true =>
          have := List.all_eq_true.mp h u (sub u h1)
          rw [this] at h2
          cases h2
      simp [ext, hm]
  | succ n ih =>
    intro T L rT sub cov hmin
    unfold search
    by_cases hU : (L.filter fun l => !toldB T l) = []
    · exfalso
      have hm : mk T K = true := List.all_eq_true.mpr fun k hk => by
        rcases cov k hk with h | h
        · have := List.filter_eq_nil_iff.mp hU k h
          simpa using this
        · exact h
      have := hmin T (by omega) rT
      rw [hm] at this
      cases this
    · rw [if_neg hU]
      dsimp only
      have um := minL_mem hU
      generalize hUe : (L.filter fun l => !toldB T l) = U at *
      have hUm : ∀ u ∈ U, u ∈ L ∧ toldB T u = false := fun u hu => by
        rw [← hUe] at hu
        have := List.mem_filter.mp hu
        exact ⟨this.1, by simpa using this.2⟩
      have u16 : minL U < 16 := hK _ (sub _ (hUm _ um).1)
      have none_of : ∀ t, frst T ≤ t → t < 16 → (minL U < t ∨ U.any (wn t ·) = false) → (ext n (T ++ [t])).find? (mk · K) = none := by
        intro t h1 h2 h3
        rw [List.find?_eq_none]
        intro S hS hm
        obtain ⟨R, g1, g2, rfl⟩ := ext_mem.mp hS
        rw [frst_snoc] at g2
        rcases h3 with h3 | h3
        · have := List.all_eq_true.mp hm _ (sub _ (hUm _ um).1)
          rw [List.append_assoc, told_skip, (hUm _ um).2] at this
          · cases this
          · intro r hr
            cases hw : wn r (minL U) with
            | false => rfl
            | true =>
              have l1 := wn_le hw
              rcases List.mem_append.mp hr with q | q
              · rw [List.mem_singleton.mp q] at l1; omega
              · have := (rz_ge g2 r q).1; omega
        · have rr : Rz 1 (T ++ R) := by
            rw [rz_app]
            refine ⟨rT, ?_⟩
            have : frst T = (match T.getLast? with | some x => x + 1 | none => 1) := rfl
            rw [← this]
            exact rz_weak (by omega) g2
          have := hmin (T ++ R) (by rw [List.length_append]; omega) rr
          have hm' : mk (T ++ R) K = true := List.all_eq_true.mpr fun k hk => by
            have hk1 := List.all_eq_true.mp hm k hk
            cases ht : toldB T k with
            | true => exact told_more ht
            | false =>
              have hkU : k ∈ U := by
                rw [← hUe]
                exact List.mem_filter.mpr ⟨(cov k hk).resolve_right (by rw [ht]; decide), by rw [ht]; rfl⟩
              have hw : wn t k = false := by
                have := List.any_eq_false.mp h3 k hkU
                simpa using this
              unfold toldB at hk1 ⊢
              rw [List.filter_append, List.filter_append, List.filter_cons, hw] at hk1
              rw [List.filter_append]
              simpa using hk1
          rw [hm'] at this
          cases this
      have split : (ext (n + 1) T).find? (mk · K) = (List.range' (frst T) (16 - frst T)).findSome? fun t => (ext n (T ++ [t])).find? (mk · K) := by
        show (List.flatMap _ _).find? _ = _
        rw [List.find?_flatMap]
      rw [split]
      have hcut : List.range' (frst T) (16 - frst T) = List.range' (frst T) (minL U + 1 - frst T) ++ List.range' (frst T + (minL U + 1 - frst T)) (16 - frst T - (minL U + 1 - frst T)) := by
        rw [List.range'_append_1]
        congr 1
        omega
      rw [hcut, List.findSome?_append]
      rw [findSome_none (l := List.range' (frst T + (minL U + 1 - frst T)) _) fun t ht => by
        have := List.mem_range'_1.mp ht
        exact none_of t (by omega) (by omega) (.inl (by omega))]
      rw [Option.or_none]
      refine findSome_congr fun t ht => ?_
      have ht := List.mem_range'_1.mp ht
      by_cases hw : U.any (wn t ·) = true
      · rw [if_pos hw]
        refine ih (T ++ [t]) U (rz_snoc.mpr ⟨rT, ht.1, by omega⟩) (fun u hu => sub u (hUm u hu).1) (fun k hk => ?_) (fun R hR rR => hmin R (by rw [List.length_append, List.length_singleton] at hR; omega) rR)
        cases h : toldB T k with
        | true => exact .inr (told_more h)
        | false =>
          left
          rw [← hUe]
          exact List.mem_filter.mpr ⟨(cov k hk).resolve_right (by rw [h]; decide), by rw [h]; rfl⟩
      · rw [if_neg hw]
        exact (none_of t ht.1 (by omega) (.inr (by simpa using hw))).symm
end MTies
namespace MTies
theorem minL_le : ∀ {l : List Nat} {u : Nat}, u ∈ l → minL l ≤ u
  | [], _, h => nomatch h
  | [x], u, h => by rw [List.mem_singleton.mp h]; exact Nat.le_refl _
  | x :: y :: l, u, h => by
    unfold minL
    rcases List.mem_cons.mp h with rfl | h
    · exact Nat.min_le_left ..
    · exact Nat.le_trans (Nat.min_le_right ..) (minL_le h)
theorem frst_le {T : List Nat} (h : Rz 1 T) : 1 ≤ frst T ∧ frst T ≤ 16 := by
  unfold frst
  cases hg : T.getLast? with
  | none => exact ⟨Nat.le_refl _, by decide⟩
  | some x =>
    have := rz_ge h x (List.mem_of_getLast? hg)
    show 1 ≤ x + 1 ∧ x + 1 ≤ 16
    exact ⟨by omega, by omega⟩
end MTies
namespace MTies
theorem find_first {β : Type} {g : Nat → Option β} {f k i : Nat} {r : β} (hi : i < k) (h1 : ∀ j, j < i → g (f + j) = none) (h2 : g (f + i) = some r) : (List.range' f k).findSome? g = some r := by
  have e : List.range' f k = List.range' f i ++ List.range' (f + i) (k - i) := by
    rw [List.range'_append_1]
    congr 1
    omega
  obtain ⟨m, hm⟩ : ∃ m, k - i = m + 1 := ⟨k - i - 1, by omega⟩
  rw [e, List.findSome?_append, findSome_none fun t ht => ?_, hm, List.range'_succ, List.findSome?_cons, h2]
  · rfl
  · have ht := List.mem_range'_1.mp ht
    have := h1 (t - f) (by omega)
    rwa [show f + (t - f) = t by omega] at this
theorem any_at (p : Nat → Bool) (U : List Nat) : ((List.range U.length).map fun i => p (U.getD i 0)).any id = U.any p := by
  have e : U = (List.range U.length).map fun i => U.getD i 0 := by
    apply List.ext_getElem
    · simp
    · intro i h1 h2
      simp [List.getD_eq_getElem?_getD, h1]
  conv => rhs; rw [e]
  rw [List.any_map, List.any_map]
  rfl
end MTies
namespace MTies
theorem told4 : ∀ k, k < 16 → toldB [1, 2, 4, 8] k = true := by decide
theorem few4 {K : List Nat} (hK : ∀ k ∈ K, k < 16) : (ext 4 []).find? (mk · K) ≠ none := by
  intro h
  rw [List.find?_eq_none] at h
  refine h [1, 2, 4, 8] (ext_mem.mpr ⟨[1, 2, 4, 8], rfl, ?_, rfl⟩) (List.all_eq_true.mpr fun k hk => told4 k (hK k hk))
  simp [Rz, frst]
theorem min_of {K : List Nat} {m : Nat} (h : ∀ j, j < m → (ext j []).find? (mk · K) = none) : ∀ R : List Nat, R.length < m → Rz 1 R → mk R K = false := by
  intro R hl hr
  have := List.find?_eq_none.mp (h _ hl) R (ext_mem.mpr ⟨R, rfl, hr, rfl⟩)
  simpa using this
theorem search0 {K : List Nat} (hK : ∀ k ∈ K, k < 16) {m : Nat} (h : ∀ j, j < m → (ext j []).find? (mk · K) = none) : search m [] K = (ext m []).find? (mk · K) :=
  search_eq hK m [] K trivial (fun _ h => h) (fun _ h => .inl h) (by simpa using min_of h)
end MTies
namespace MTies
theorem fm_one {α β : Type} (f : α → β) : ∀ l : List α, (l.flatMap fun t => [f t]) = l.map f
  | [] => rfl
  | x :: l => by
    rw [List.flatMap_cons, fm_one f l]
    rfl
theorem ext_snoc : ∀ (n : Nat) (T : List Nat), ext (n + 1) T = (ext n T).flatMap fun S => (List.range' (frst S) (16 - frst S)).map fun t => S ++ [t]
  | 0, T => by
    simp only [ext, List.flatMap_singleton]
    exact fm_one _ _
  | n + 1, T => by
    show (List.range' (frst T) (16 - frst T)).flatMap (fun t => ext (n + 1) (T ++ [t])) = _
    conv => rhs; rw [show ext (n + 1) T = (List.range' (frst T) (16 - frst T)).flatMap fun t => ext n (T ++ [t]) from rfl, List.flatMap_assoc]
    congr 1
    funext t
    exact ext_snoc n (T ++ [t])
theorem rz_last : ∀ {S : List Nat} {a x : Nat}, Rz a S → S.getLast? = some x → ∀ r ∈ S, r ≤ x
  | [], _, _, _, h => by cases h
  | [y], _, x, _, h => by
    intro r hr
    simp at h hr
    omega
  | y :: z :: S, a, x, ⟨h1, h2, h3⟩, h => by
    rw [List.getLast?_cons_cons] at h
    intro r hr
    have ih := rz_last h3 h
    rcases List.mem_cons.mp hr with rfl | hr
    · have := ih z (List.mem_cons_self ..)
      have := h3.1
      omega
    · exact ih r hr
theorem frst_max {S : List Nat} (h : Rz 1 S) {M : Nat} (h1 : M ∈ 0 :: S) (h2 : ∀ a ∈ 0 :: S, a ≤ M) : 1 + M = frst S := by
  unfold frst
  cases hg : S.getLast? with
  | none =>
    rw [List.getLast?_eq_none_iff.mp hg] at h1
    simp at h1
    simp [h1]
  | some x =>
    show 1 + M = x + 1
    have hx := List.mem_of_getLast? hg
    have g1 := h2 x (List.mem_cons_of_mem _ hx)
    have g2 := (rz_ge h x hx).1
    rcases List.mem_cons.mp h1 with z | z
    · omega
    · have := rz_last h hg M z
      omega
theorem ext_rz {n : Nat} {S : List Nat} (h : S ∈ ext n []) : Rz 1 S ∧ S.length = n := by
  obtain ⟨R, h1, h2, rfl⟩ := ext_mem.mp h
  exact ⟨h2, by simpa using h1⟩
theorem ext_len : ∀ n, (ext n []).length ≤ 16 ^ n
  | 0 => by simp [ext]
  | n + 1 => by
    rw [ext_snoc, List.length_flatMap]
    have : ∀ l : List (List Nat), (l.map fun S => ((List.range' (frst S) (16 - frst S)).map fun t => S ++ [t]).length).sum ≤ 16 * l.length := fun l => by
      induction l with
      | nil => simp
      | cons S l ih =>
        simp only [List.map_cons, List.sum_cons, List.length_cons, List.length_map, List.length_range'] at ih ⊢
        omega
    refine Nat.le_trans (this _) ?_
    rw [Nat.pow_succ, Nat.mul_comm]
    exact Nat.mul_le_mul_right _ (ext_len n)
end MTies
namespace L2
open PySem PySem.Spec PyProof.Rows
noncomputable def kStep (ks : List Int) (m : Int) : List Int := if m ∈ (0 :: ks) then ks else ks ++ [m]
noncomputable def kOf (ms : List Int) : List Int := ms.foldl kStep []
noncomputable def kZ (l : List Int) (j : Nat) : List (Key × V) := (l.zipIdx j).map fun p => (.inl p.1, .int (p.2 : Nat))
noncomputable def kD (ks : List Int) : List (Key × V) := kZ (0 :: ks) 0
theorem kZ_get : ∀ (l : List Int) (j : Nat) (m : Int), valV (kZ l j) (.inl m) = if m ∈ l then some (.int ((j + l.idxOf m : Nat) : Int)) else none
  | [], j, m => rfl
  | x :: l, j, m => by
    unfold kZ
    rw [List.zipIdx_cons, List.map_cons]
    unfold valV
    rw [List.find?_cons]
    by_cases h : x = m
    · subst h
      simp
    · have e : (decide ((Sum.inl x : Key) = .inl m)) = false := by simp [h]
      simp only [e]
      have ih := kZ_get l (j + 1) m
      unfold kZ valV at ih
      rw [ih]
      have hm : (m ∈ x :: l) ↔ m ∈ l := by simp [Ne.symm h]
      by_cases q : m ∈ l
      · rw [if_pos q, if_pos (hm.mpr q), List.idxOf_cons]
        have e2 : (x == m) = false := by simp [h]
        rw [e2]
        simp only [cond_false]
        congr 2
        omega
      · rw [if_neg q, if_neg (fun z => q (hm.mp z))]
theorem kD_get (ks : List Int) (m : Int) : valV (kD ks) (.inl m) = if m ∈ (0 :: ks) then some (.int (((0 :: ks).idxOf m : Nat) : Int)) else none := by
  unfold kD
  rw [kZ_get, Nat.zero_add]
theorem kD_len (ks : List Int) : (kD ks).length = ks.length + 1 := by
  unfold kD kZ
  simp
theorem kZ_append (l : List Int) (m : Int) (j : Nat) : kZ (l ++ [m]) j = kZ l j ++ [(.inl m, .int ((j + l.length : Nat) : Int))] := by
  unfold kZ
  rw [List.zipIdx_append, List.map_append]
  rfl
theorem kD_put (ks : List Int) (m : Int) (h : ¬ m ∈ (0 :: ks)) : putK (kD ks) (.inl m) (.int ((ks.length + 1 : Nat) : Int)) = kD (ks ++ [m]) := by
  rw [putK_new _ (by rw [kD_get, if_neg h])]
  unfold kD
  rw [← List.cons_append, kZ_append]
  simp
theorem kZ_keys : ∀ (l : List Int) (j : Nat), (kZ l j).map (fun kv => kV kv.1) = l.map V.int
  | [], j => rfl
  | x :: l, j => by
    have ih := kZ_keys l (j + 1)
    unfold kZ at ih ⊢
    rw [List.zipIdx_cons, List.map_cons, List.map_cons, ih, List.map_cons]
    rfl
theorem kD_keys (ks : List Int) : (kD ks).map (fun kv => kV kv.1) = (0 :: ks).map V.int := kZ_keys _ 0
theorem kOf_snoc (ms : List Int) (m : Int) : kOf (ms ++ [m]) = kStep (kOf ms) m := by
  unfold kOf
  rw [List.foldl_append]
  rfl
theorem kStep_le (ks : List Int) (m : Int) : (kStep ks m).length ≤ ks.length + 1 := by
  unfold kStep
  split
  · omega
  · simp
theorem kOf_take (ms : List Int) (i : Nat) (h : i < ms.length) : kOf (ms.take (i + 1)) = kStep (kOf (ms.take i)) ms[i] := by
  rw [List.take_succ_eq_append_getElem h, kOf_snoc]
theorem kOf_len : ∀ (ms : List Int), (kOf ms).length ≤ ms.length := by
  refine MM.snoc_ind (Nat.le_refl _) fun l a ih => ?_
  rw [kOf_snoc, List.length_append]
  have := kStep_le (kOf l) a
  have : [a].length = 1 := rfl
  omega
theorem kOf_mem : ∀ (ms : List Int) (m : Int), m ∈ ms → m ∈ (0 :: kOf ms) := by
  refine MM.snoc_ind (fun m h => nomatch h) fun l a ih => ?_
  · intro m h
    rw [kOf_snoc]
    unfold kStep
    rcases List.mem_append.mp h with q | q
    · have := ih m q
      split
      · exact this
      · rw [← List.cons_append]; exact List.mem_append_left _ this
    · have e : m = a := by simpa using q
      subst e
      split
      · assumption
      · rw [← List.cons_append]; exact List.mem_append_right _ (by simp)
end L2
namespace L2
open PySem PySem.Spec PyProof.Rows
end L2
open L2
local macro_rules | `(tactic| walk_at "t") => `(tactic| first | (with_reducible first | refine rd_seq ?_ | refine rd_asg ?_ | refine rd_name ?_ | refine rd_c ?_ | refine rd_op ?_ | refine rd_un ?_ | refine rd_rI0 ?_ | refine rd_rU ?_ | refine rd_eqI ?_ | refine rd_neI ?_ | refine rd_not ?_ | refine rd_test ?_ | refine rd_tB ?_ | refine rd_bl ?_ | refine rd_or ?_ | refine rd_if ?_ | refine rd_ret ?_ | refine rd_drop ?_ | refine rd_nil ?_ | refine rd_cons ?_ | refine rd_lst ?_ | refine rd_cb ?_ | refine rd_call ?_ | refine rd_sl ?_ | refine rd_part ?_ | refine rd_noPart ?_ | refine rd_int ?_ | refine iteT ?_ | refine iteF ?_ | refine rd_next ?_ | refine rd_disp ?_ | refine rd_pnil ?_ | refine rd_pcons ?_ | refine rd_dnotin ?_ | refine rd_dput ?_ | refine rd_bm ?_ | refine iteNF ?_ | refine rd_comp ?_ | refine rd_for ?_ | refine rd_iL ?_ | refine rd_iQ ?_ | refine rd_iE ?_ | refine rd_iF ?_ | refine rd_i1 ?_ | refine rd_i2 ?_) | ((with_reducible apply rd_var); exact rfl) | (with_reducible refine rd_len (by simp only [List.length_cons, List.length_nil]; decide) ?_))
local macro_rules | `(tactic| walk_at "s") => `(tactic| first | walk_at "t" | (with_reducible refine rd_ifS ?_))
local macro_rules | `(tactic| walk_at "w") => `(tactic| repeat walk_at "s")
namespace K07
open PySem L2 PySem.Spec PyProof.Rows
seal L2.PE L2.PT L2.PW L2.PA L2.PS L2.PSs L2.PI L2.PG L2.PTs L2.PGs
section
variable {P : Program} {w : World} {K : PySem.W.Frag} {mg : Str → Option Value} {base : Heap}
noncomputable def top (i : Nat) : Stmt := PySem.Challenge.pw_loomwright_k07_whole_fewest_ties.main.body.getD i (.Pass ⟨0, 0, 0, 0⟩)
structure Cs where
  nothing : Unit
structure Txt (K : PySem.W.Frag) (mg : Str → Option Value) (c : Cs) : Prop where
  own : Own mg ["isinstance", "int", "bool", "list", "set", "len", "any", "range", "sum", "enumerate", "min", "max", "sorted"]
noncomputable def spLaw (K : PySem.W.Frag) : Sp := fun vs H Q _ => ∃ (a : Addr) (ns : List Int), vs = [.ref a] ∧ SqL K H a (ns.map V.int) ∧ ns.length ≤ 63 ∧ ∀ H', Q (.bl true) H'
end
end K07
open L2
namespace K07
open PySem L2 PySem.Spec PyProof.Rows
seal L2.PE L2.PT L2.PW L2.PA L2.PS L2.PSs L2.PI L2.PG L2.PTs L2.PGs
section
variable {P : Program} {w : World} {K : PySem.W.Frag} {mg : Str → Option Value} {base : Heap} {c : Cs}
noncomputable def sp_union_of (K : PySem.W.Frag) : Sp := fun vs H Q _ => ∃ tp a, ∃ ns : List Nat, vs = [.ref a] ∧ SqS tp K H a (ns.map nV) ∧ ∀ H', Same H H' → Q (.int ((MM.uOf ns : Nat) : Int)) H'
noncomputable abbrev s_union_of : Stmt := top 1
theorem sc_union_of : FnScope ["masks", "union", "mask"] ["masks"] (defScope s_union_of) := ⟨rfl, rfl, rfl, by decide +kernel, rfl, by decide +kernel, by decide +kernel⟩
theorem ok_union_of {f : Addr} {fd : FuncData} (F : Fun K "union_of" "union_of" s_union_of f fd) (T : Txt K mg c) : FnOk P w K mg base CX0 1 f fd ["masks"] (sp_union_of K) := by
  refine F.ok sc_union_of (fun vs H Q E h => ?_) (fun cdv A outer s H vs Q E hr h => ?_)
  · obtain ⟨tp, a, ns, rfl, _⟩ := h
    rfl
  · obtain ⟨tp, a, ns, rfl, sa, q⟩ := h
    refine ⟨_, (pss_cons (ps_set (i := 1) sc_union_of.nd rfl (Or.inl rfl) pe_int)
      (pss_cons (ps_for PassesOwn.never rfl (pi_sq (K := K) (pv 0)) (pg_name (i := 2) sc_union_of.nd rfl (Or.inl rfl)) (pss_one (ps_aug (i := 1) sc_union_of.nd rfl (Or.inl rfl) (pv 2) iop_or)))
      (pss_one (ps_ret (pv 1))))), ?_⟩
    walk_at "w"
    refine ⟨tp, a, rfl, ⟨_, sa⟩, for_src (fs_sq sa) (fun i σ H3 => ∃ x, σ = [some (.ref a), some (.int ((MM.uOf (ns.take i) : Nat) : Int)), x] ∧ Same H H3) ⟨_, rfl, Same.refl _⟩ (fun i σ H3 ⟨_, _, s⟩ => s) ?_ ?_⟩
    · rintro i σ H' H3 hi ⟨x, rfl, s'⟩ s3
      have hi' : i < ns.length := by simpa using hi
      rw [getD_nat hi]
      walk_at "w"
      refine rd_aug rfl ?_
      walk_at "w"
      rw [bO, ← MM.uOf_snoc, ← take_getD hi']
      exact ⟨_, rfl, s'.trans s3⟩
    · rintro σ H3 ⟨x, rfl, s3⟩
      walk_at "w"
      rw [List.length_map, List.take_length]
      exact q H3 s3
end
end K07
open L2
namespace K07
open PySem L2 PySem.Spec PyProof.Rows
seal L2.PE L2.PT L2.PW L2.PA L2.PS L2.PSs L2.PI L2.PG L2.PTs L2.PGs
section
variable {P : Program} {w : World} {K : PySem.W.Frag} {mg : Str → Option Value} {base : Heap} {c : Cs}
noncomputable def sp_numbered_kinds (K : PySem.W.Frag) : Sp := fun vs H Q _ => ∃ (a : Addr) (ms : List Int), vs = [.ref a] ∧ SqL K H a (ms.map V.int) ∧ ms.length ≤ 10000 ∧ ∀ H' p, Same H H' → H p = none → H' p = some (.dK (kD (kOf ms))) → Q (.ref p) H'
noncomputable abbrev s_numbered_kinds : Stmt := top 3
theorem sc_numbered_kinds : FnScope ["masks", "numbers", "mask"] ["masks"] (defScope s_numbered_kinds) := ⟨rfl, rfl, rfl, by decide +kernel, rfl, by decide +kernel, by decide +kernel⟩
theorem ok_numbered_kinds {f : Addr} {fd : FuncData} (F : Fun K "numbered_kinds" "numbered_kinds" s_numbered_kinds f fd) (T : Txt K mg c) : FnOk P w K mg base CX0 1 f fd ["masks"] (sp_numbered_kinds K) := by
  refine F.ok sc_numbered_kinds (fun vs H Q E h => ?_) (fun cdv A outer s H vs Q E hr h => ?_)
  · obtain ⟨a, ms, rfl, _⟩ := h
    rfl
  · obtain ⟨a, ms, rfl, sa, hn, k⟩ := h
    have hu1 := hr.units1
    refine ⟨_, (pss_cons (ps_set (i := 1) sc_numbered_kinds.nd rfl (Or.inl rfl) (pe_disp (pps_cons pe_int pe_int pps_nil) rfl rfl (by simp) (by decide)))
      (pss_cons (ps_for PassesOwn.never rfl (k_pil (K := K) (pv 0)) (pg_name (i := 2) sc_numbered_kinds.nd rfl (Or.inl rfl)) (pss_one (ps_if (pt_cmp (pc_dnotin hu1 (pv 2) (pv 1))) (pss_one (ps_dput hu1 (pv 1) (pv 2) (pe_callB call_lenD rfl (T.own _ (by decide)) boot_len (pa_cons (pv 1) pa_nil)) rfl)) pss_nil)))
      (pss_one (ps_ret (pv 1))))), ?_⟩
    walk_at "w"
    intro p hp
    walk_at "w"
    refine ⟨upd_same, [(.inl 0, .int 0)], rfl, by decide, ?_⟩
    rw [upd_upd]
    have e0 : mergeK [] [((.inl 0 : Key), V.int 0)] = kD (kOf (ms.take 0)) := rfl
    rw [e0]
    walk_at "w"
    have s0 := same_new (o := HO.dK (kD (kOf (ms.take 0)))) hp
    refine ⟨a, rfl, ⟨_, s0.seq sa⟩, for_list (K := K) (a := a) (xs := ms.map V.int) (fun i σ H3 => ∃ x, σ = [some (.ref a), some (.ref p), x] ∧ Same H H3 ∧ H3 p = some (.dK (kD (kOf (ms.take i))))) ⟨_, rfl, s0, upd_same⟩ (fun i σ H3 _ ⟨_, _, s3, _⟩ => s3.seq sa) ?_ ?_⟩
    · rintro i x σ H3 hx ⟨y, rfl, s3, h3⟩
      have hi : i < ms.length := by simpa using (List.getElem?_eq_some_iff.mp hx).1
      have ex : x = .int ms[i] := by
        rw [List.getElem?_map, List.getElem?_eq_getElem hi] at hx
        exact (Option.some.inj hx).symm
      subst ex
      walk_at "w"
      refine ⟨p, _, rfl, DGet.k (k := .inl ms[i]) h3, ?_⟩
      walk_at "w"
      rw [kD_get]
      by_cases q : ms[i] ∈ (0 :: kOf (ms.take i))
      · rw [if_pos q]
        refine iteF ?_
        walk_at "w"
        refine ⟨_, rfl, s3, ?_⟩
        rw [kOf_take ms i hi]
        unfold kStep
        rw [if_pos q]
        exact h3
      · rw [if_neg q]
        refine iteT ?_
        walk_at "w"
        refine ⟨p, _, rfl, h3, ?_⟩
        walk_at "w"
        have hl := kOf_len (ms.take i)
        rw [List.length_take] at hl
        refine ⟨p, _, rfl, DPut.k (k := .inl ms[i]) h3 (by rw [kD_len]; exact Nat.lt_of_le_of_lt (by omega : _ ≤ 20000) (by decide)), ?_⟩
        walk_at "w"
        refine ⟨_, rfl, same_at s3 hp, ?_⟩
        rw [upd_same, kD_len, kD_put _ _ q, kOf_take ms i hi]
        unfold kStep
        rw [if_neg q]
    · rintro σ H3 ⟨y, rfl, s3, h3⟩
      rw [List.length_map, List.take_length] at h3
      walk_at "w"
      exact k H3 p s3 hp h3
noncomputable def sp_kinds_of (K : PySem.W.Frag) : Sp := fun vs H Q _ => ∃ (a : Addr) (ms : List Int), vs = [.ref a] ∧ SqL K H a (ms.map V.int) ∧ ms.length ≤ 10000 ∧ ∀ H' p, Same H H' → H p = none → H' p = some (.lst ((kOf ms).map V.int)) → Q (.ref p) H'
noncomputable abbrev s_kinds_of : Stmt := top 4
theorem sc_kinds_of : FnScope ["masks"] ["masks"] (defScope s_kinds_of) := ⟨rfl, rfl, rfl, by decide +kernel, rfl, by decide +kernel, by decide +kernel⟩
theorem ok_kinds_of {f : Addr} {fd : FuncData} (F : Fun K "kinds_of" "kinds_of" s_kinds_of f fd) (T : Txt K mg c) (c_numbered_kinds : CallF P w K mg base "numbered_kinds" 1 ["masks"] (sp_numbered_kinds K)) : FnOk P w K mg base CX0 2 f fd ["masks"] (sp_kinds_of K) := by
  refine F.ok sc_kinds_of (fun vs H Q E h => ?_) (fun cdv A outer s H vs Q E hr h => ?_)
  · obtain ⟨a, ms, rfl, _⟩ := h
    rfl
  · obtain ⟨a, ms, rfl, sa, hn, k⟩ := h
    refine ⟨_, (pss_one (ps_ret (pe_slice (k_sll (K := K)) (pe_callTy (call_listD rfl) rfl (T.own _ (by decide)) boot_list' (pa_cons (pe_callF c_numbered_kinds hr (pa_cons (pv 0) pa_nil)) pa_nil)) (po_some pe_int) po_none))), ?_⟩
    walk_at "w"
    refine ⟨a, ms, rfl, sa, hn, fun H1 p s1 hp h1 => ?_⟩
    walk_at "w"
    refine rd_listD h1 fun l hl => ?_
    walk_at "w"
    rw [kD_keys]
    refine rd_slL (SqL.of upd_same) fun q hq => ?_
    have s2 : Same H1 (upd H1 l (HO.lst ((0 :: kOf ms).map V.int))) := same_new hl
    have hq' : H1 q = none := s2.free hq
    refine k _ _ (s1.trans (s2.trans (same_new hq))) (s1.free hq') ?_
    rw [upd_same, cut_from (by decide)]
    rfl
end
end K07
open L2
namespace K07
open PySem L2 PySem.Spec PyProof.Rows
seal L2.PE L2.PT L2.PW L2.PA L2.PS L2.PSs L2.PI L2.PG L2.PTs L2.PGs
section
variable {P : Program} {w : World} {K : PySem.W.Frag} {mg : Str → Option Value} {base : Heap} {c : Cs}
noncomputable def sp_lies_within : Sp := fun vs H Q _ => ∃ m n : Nat, vs = [.int m, .int n] ∧ Q (.bl (MTies.wn m n)) H
noncomputable abbrev s_lies_within : Stmt := top 6
theorem sc_lies_within : FnScope ["tie", "lift"] ["tie", "lift"] (defScope s_lies_within) := ⟨rfl, rfl, rfl, by decide +kernel, rfl, by decide +kernel, by decide +kernel⟩
theorem ok_lies_within {f : Addr} {fd : FuncData} (F : Fun K "lies_within" "lies_within" s_lies_within f fd) (T : Txt K mg c) : FnOk P w K mg base CX0 1 f fd ["tie", "lift"] sp_lies_within := by
  refine F.ok sc_lies_within (fun vs H Q E h => ?_) (fun cdv A outer s H vs Q E hr h => ?_)
  · obtain ⟨m, n, rfl, _⟩ := h
    rfl
  · obtain ⟨m, n, rfl, q⟩ := h
    refine ⟨_, (pss_one (ps_ret (pe_cmpR op_eq (pe_op op_or (pv 0) (pv 1)) (pv 1) (nomark _)))), ?_⟩
    walk_at "w"
    rw [bO]
    have e : decide (((m ||| n : Nat) : Int) = (n : Int)) = MTies.wn m n := by
      unfold MTies.wn
      exact decide_eq_decide.mpr (by omega)
    rw [e]
    exact q
noncomputable def sp_is_told (K : PySem.W.Frag) : Sp := fun vs H Q _ => ∃ (l : Nat) (a : Addr) (ts : List Nat), vs = [.int l, .ref a] ∧ SqL K H a (ts.map nV) ∧ ts.length ≤ 10000 ∧ ∀ H', Same H H' → Q (.bl (MTies.toldB ts l)) H'
theorem filt_at (p : Nat → Bool) (ts : List Nat) : ((List.range ts.length).filter fun i => p (ts.getD i 0)).map (fun i => ts.getD i 0) = ts.filter p := by
  have e : ts = (List.range ts.length).map fun i => ts.getD i 0 := by
    apply List.ext_getElem
    · simp
    · intro i h1 h2
      simp [List.getD_eq_getElem?_getD, h1]
  conv => rhs; rw [e]
  rw [List.filter_map]
  rfl
noncomputable abbrev s_is_told : Stmt := top 7
theorem sc_is_told : FnScope ["lift", "ties"] ["lift", "ties"] (defScope s_is_told) := ⟨rfl, rfl, rfl, by decide +kernel, rfl, by decide +kernel, by decide +kernel⟩
theorem ok_is_told {f : Addr} {fd : FuncData} (F : Fun K "is_told" "is_told" s_is_told f fd) (T : Txt K mg c) (c_lies_within : CallF P w K mg base "lies_within" 1 ["tie", "lift"] sp_lies_within) (c_union_of : CallF P w K mg base "union_of" 1 ["masks"] (sp_union_of K)) : FnOk P w K mg base CX0 2 f fd ["lift", "ties"] (sp_is_told K) := by
  refine F.ok sc_is_told (fun vs H Q E h => ?_) (fun cdv A outer s H vs Q E hr h => ?_)
  · obtain ⟨l, a, ts, rfl, _⟩ := h
    rfl
  · obtain ⟨l, a, ts, rfl, sa, hl, q⟩ := h
    refine ⟨_, (pss_one (ps_ret (pe_cmpR op_eq (pe_callF c_union_of hr (pa_cons (pe_comp1 (k_pil (K := K) (pv 1)) (fun _ _ _ _ => (pts_one (pt_val (pe_callF c_lies_within hr (pa_cons (pv 0) (pa_cons (pv 1) pa_nil)))))) (fun _ _ _ _ => (pv 0))) pa_nil)) (pv 0) (nomark _)))), ?_⟩
    walk_at "w"
    refine ⟨a, rfl, ⟨_, sa⟩, fun D hD => ?_⟩
    refine ints_compF (p := fun i => MTies.wn (ts.getD i 0) l) (G := fun i => ((ts.getD i 0 : Nat) : Int)) (src_list sa rfl) hD (by simpa using (by omega : ts.length ≤ 100000)) ?_ ?_ ?_
    · intro i H' R hi s k
      rw [getD_nat hi]
      walk_at "w"
      exact ⟨_, _, rfl, _, rfl, k H' (Same.refl _)⟩
    · intro i H' R hi hp s k
      rw [getD_nat hi]
      walk_at "w"
      exact k H' (Same.refl _)
    · intro H' s hd
      have eD : (((List.range (ts.map nV).length).filter fun i => MTies.wn (ts.getD i 0) l).map fun i => ((ts.getD i 0 : Nat) : Int)).map V.int = (ts.filter (MTies.wn · l)).map nV := by
        rw [List.length_map, ← filt_at (MTies.wn · l) ts, List.map_map, List.map_map]
        rfl
      rw [eD] at hd
      walk_at "w"
      refine ⟨false, D, _, rfl, SqL.of hd, fun H2 s2 => ?_⟩
      walk_at "w"
      have e : decide (((MM.uOf (ts.filter (MTies.wn · l)) : Nat) : Int) = (l : Int)) = MTies.toldB ts l := by
        unfold MTies.toldB
        exact decide_eq_decide.mpr (by omega)
      rw [e]
      exact q H2 (s.trans s2)
noncomputable def sp_trodden_of (K : PySem.W.Frag) : Sp := fun vs H Q _ => ∃ (l : Nat) (a : Addr) (ts : List Nat), vs = [.int l, .ref a] ∧ SqL K H a (ts.map nV) ∧ ts.length ≤ 10000 ∧ ∀ H' p, Same H H' → H p = none → H' p = some (.lst ((((List.range ts.length).filter fun i => MTies.wn (ts.getD i 0) l).map fun (i : Nat) => ((i : Int) + 1)).map V.int)) → Q (.ref p) H'
noncomputable abbrev s_trodden_of : Stmt := top 10
theorem sc_trodden_of : FnScope ["lift", "ties"] ["lift", "ties"] (defScope s_trodden_of) := ⟨rfl, rfl, rfl, by decide +kernel, rfl, by decide +kernel, by decide +kernel⟩
theorem ok_trodden_of {f : Addr} {fd : FuncData} (F : Fun K "trodden_of" "trodden_of" s_trodden_of f fd) (T : Txt K mg c) (c_lies_within : CallF P w K mg base "lies_within" 1 ["tie", "lift"] sp_lies_within) : FnOk P w K mg base CX0 2 f fd ["lift", "ties"] (sp_trodden_of K) := by
  refine F.ok sc_trodden_of (fun vs H Q E h => ?_) (fun cdv A outer s H vs Q E hr h => ?_)
  · obtain ⟨l, a, ts, rfl, _⟩ := h
    rfl
  · obtain ⟨l, a, ts, rfl, sa, hl, q⟩ := h
    refine ⟨_, (pss_one (ps_ret (pe_comp2 (K := K) (pi_enumS (K := K) rfl (T.own _ (by decide)) (pa_cons (pv 1) pa_nil)) (fun _ _ _ _ => (pts_one (pt_val (pe_callF c_lies_within hr (pa_cons (pv 1) (pa_cons (pv 2) pa_nil)))))) (fun _ _ _ _ => (pv 0))))), ?_⟩
    walk_at "w"
    refine ⟨false, a, rfl, ⟨_, sa⟩, fun D hD => ?_⟩
    refine ints_compF (p := fun i => MTies.wn (ts.getD i 0) l) (G := fun (i : Nat) => (i : Int) + 1) (src_enumS sa rfl rfl) hD (by simpa using (by omega : ts.length ≤ 100000)) ?_ ?_ ?_
    · intro i H' R hi s k
      rw [getD_nat hi]
      walk_at "w"
      exact ⟨_, _, rfl, _, rfl, k H' (Same.refl _)⟩
    · intro i H' R hi hp s k
      walk_at "w"
      exact k H' (Same.refl _)
    · intro H' s hd
      rw [List.length_map] at hd
      exact q H' D s hD hd
end
end K07
open L2
namespace K07
open PySem L2 PySem.Spec PyProof.Rows
seal L2.PE L2.PT L2.PW L2.PA L2.PS L2.PSs L2.PI L2.PG L2.PTs L2.PGs
section
variable {P : Program} {w : World} {K : PySem.W.Frag} {mg : Str → Option Value} {base : Heap} {c : Cs}
noncomputable def sp_ties_behind : Nat → Sp
  | 0 => fun _ _ _ _ => False
  | n + 1 => fun vs H Q _ => ∃ (a b : Addr) (ts L : List Nat) (q : Nat), q + 1 ≤ n ∧ vs = [.ref a, .ref b, nV (ts.length + q)] ∧ H a = some (.lst (ts.map nV)) ∧ H b = some (.lst (L.map nV)) ∧ ts.length + q ≤ 20 ∧ L.length ≤ 10000 ∧ (∀ l ∈ L, l < 16) ∧ MTies.Rz 1 ts ∧
    (∀ H', Same H H' → MTies.search q ts L = none → Q .non H') ∧ (∀ H' p R, Same H H' → MTies.search q ts L = some R → (p = a ∨ H p = none) → H' p = some (.lst (R.map nV)) → Q (.ref p) H')
theorem atI_last {ts : List Nat} {x : Nat} (h : ts.getLast? = some x) : atI (ts.map nV) (-1) = some (nV x) := by
  have hn : ts ≠ [] := fun z => by rw [z] at h; cases h
  have hl : 0 < ts.length := List.length_pos_iff.mpr hn
  unfold atI ixN
  rw [List.length_map]
  simp only [show ¬ ((0 : Int) ≤ -1) by decide, if_false]
  rw [if_pos (by omega)]
  simp only [Option.bind_some]
  rw [List.getElem?_map, show ((-1 : Int) + (ts.length : Int)).toNat = ts.length - 1 by omega, ← List.getLast?_eq_getElem?, h]
  rfl
noncomputable abbrev s_ties_behind : Stmt := top 8
theorem sc_ties_behind : FnScope ["ties", "lifts", "many", "untold", "first", "tie", "found"] ["ties", "lifts", "many"] (defScope s_ties_behind) := ⟨rfl, rfl, rfl, by decide +kernel, rfl, by decide +kernel, by decide +kernel⟩
theorem ok1_ties_behind {n : Nat} {f : Addr} {fd : FuncData} (F : Fun K "ties_behind" "ties_behind" s_ties_behind f fd) (T : Txt K mg c) (c_is_told : CallF P w K mg base "is_told" 2 ["lift", "ties"] (sp_is_told K)) (c_lies_within : CallF P w K mg base "lies_within" 1 ["tie", "lift"] sp_lies_within) (c_ties_behind : CallF P w K mg base "ties_behind" (n + 1) ["ties", "lifts", "many"] (sp_ties_behind n)) : FnOk P w K mg base CX0 (n + 2) f fd ["ties", "lifts", "many"] (sp_ties_behind (n + 1)) := by
  refine F.ok sc_ties_behind (fun vs H Q E h => ?_) (fun cdv A outer s H vs Q E hr h => ?_)
  · obtain ⟨a, b, ts, L, q, hq, rfl, _⟩ := h
    rfl
  · obtain ⟨a, b, ts, L, q, hq, rfl, ha, hb, h20, hL, h16, hR, kN, kS⟩ := h
    refine ⟨_, (pss_cons (ps_comp1 (i := 3) sc_ties_behind.nd rfl (Or.inl rfl) (k_pil (K := K) (pv 1)) (fun _ _ _ _ => (pts_one (pt_not (pt_val (pe_callF c_is_told (hr.mono (by omega)) (pa_cons (pv 0) (pa_cons (pv 1) pa_nil))))))) (fun _ _ _ _ => (pv 0)))
      (pss_cons (ps_if (pt_cmpR op_eq (pe_callB (k_len (K := K)) rfl (T.own _ (by decide)) boot_len (pa_cons (pv 3) pa_nil)) pe_int (nomark _)) (pss_one (ps_ret (pv 0))) pss_nil)
      (pss_cons (ps_if (pt_cmpR op_eq (pe_callB (k_len (K := K)) rfl (T.own _ (by decide)) boot_len (pa_cons (pv 0) pa_nil)) (pv 2) (nomark _)) (pss_one (ps_ret pe_non)) pss_nil)
      (pss_cons (ps_set (i := 4) sc_ties_behind.nd rfl (Or.inl rfl) (pe_ifExp (pt_cmpR op_gt (pe_callB (k_len (K := K)) rfl (T.own _ (by decide)) boot_len (pa_cons (pv 0) pa_nil)) pe_int (nomark _)) (pe_op op_add (pe_ix (k_ixl (K := K)) (pv 0) (pe_un un_neg pe_int) (fun _ _ => rfl)) pe_int) pe_int))
      (pss_cons (ps_for PassesOwn.never rfl (pi_range2 rfl (T.own _ (by decide)) (pa_cons (pv 4) (pa_cons (pe_op op_add (pe_callB (k_minL (K := K)) rfl (T.own _ (by decide)) boot_min' (pa_cons (pv 3) pa_nil)) pe_int) pa_nil))) (pg_name (i := 5) sc_ties_behind.nd rfl (Or.inr rfl)) (pss_one (ps_if (pt_val (pe_callB (k_any (K := K)) rfl (T.own _ (by decide)) boot_any' (pa_cons (pe_comp1 (k_pil (K := K) (pv 3)) (fun _ _ _ _ => pts_nil) (fun _ _ _ _ => (pe_callF c_lies_within (hr.mono (by omega)) (pa_cons (pv 1) (pa_cons (pv 0) pa_nil))))) pa_nil))) (pss_cons (ps_set (i := 6) sc_ties_behind.nd rfl (Or.inl rfl) (pe_callF c_ties_behind hr (pa_cons (pe_op (k_cat (K := K)) (pv 0) (pe_lst (pa_cons (pv 5) pa_nil))) (pa_cons (pv 3) (pa_cons (pv 2) pa_nil)))))
      (pss_one (ps_if (pt_cmpR op_notN (pv 6) pe_non (nomark _)) (pss_one (ps_ret (pv 6))) pss_nil))) pss_nil)))
      (pss_one (ps_ret pe_non))))))), ?_⟩
    walk_at "w"
    refine ⟨b, rfl, ⟨_, SqL.of hb⟩, fun D hD => ?_⟩
    refine ints_compF (p := fun i => !MTies.toldB ts (L.getD i 0)) (G := fun i => ((L.getD i 0 : Nat) : Int)) (src_list (SqL.of hb) rfl) hD (by simpa using (by omega : L.length ≤ 100000)) ?_ ?_ ?_
    · intro i H' R hi s k
      rw [getD_nat hi]
      walk_at "w"
      refine ⟨_, a, ts, rfl, SqL.of (s _ _ ha), by omega, fun H2 s2 => ?_⟩
      walk_at "w"
      exact k H2 s2
    · intro i H' R hi hp s k
      rw [getD_nat hi]
      walk_at "w"
      exact k H' (Same.refl _)
    · intro H1 s1 hd
      have eD : (((List.range (L.map nV).length).filter fun i => !MTies.toldB ts (L.getD i 0)).map fun i => ((L.getD i 0 : Nat) : Int)).map V.int = (L.filter fun l => !MTies.toldB ts l).map nV := by
        rw [List.length_map, ← filt_at (fun l => !MTies.toldB ts l) L, List.map_map, List.map_map]
        rfl
      rw [eD] at hd
      have hs : MTies.search q ts L = if (L.filter fun l => !MTies.toldB ts l) = [] then some ts else match q with
          | 0 => none
          | m + 1 => (List.range' (MTies.frst ts) (MTies.minL (L.filter fun l => !MTies.toldB ts l) + 1 - MTies.frst ts)).findSome? fun t => if (L.filter fun l => !MTies.toldB ts l).any (MTies.wn t ·) = true then MTies.search m (ts ++ [t]) (L.filter fun l => !MTies.toldB ts l) else none := by
        cases q <;> (conv => lhs; unfold MTies.search)
      have hUl : (L.filter fun l => !MTies.toldB ts l).length ≤ L.length := List.length_filter_le ..
      have hU16 : ∀ u ∈ (L.filter fun l => !MTies.toldB ts l), u < 16 := fun u hu => h16 u (List.mem_filter.mp hu).1
      rw [hs] at kN kS
      clear hs eD
      generalize (L.filter fun l => !MTies.toldB ts l) = U at *
      walk_at "w"
      refine rd_lenL (SqL.of hd) ?_
      walk_at "w"
      rw [List.length_map]
      refine iteP (fun hz => ?_) (fun hz => ?_)
      · walk_at "w"
        have hz : U = [] := List.length_eq_zero_iff.mp (by omega)
        exact kS H1 a ts s1 (if_pos hz) (.inl rfl) (s1 _ _ ha)
      have hne : U ≠ [] := fun z => hz (by rw [z]; rfl)
      simp only [if_neg hne] at kN kS
      walk_at "w"
      refine rd_lenL (SqL.of (s1 _ _ ha)) ?_
      walk_at "w"
      rw [List.length_map]
      refine iteP (fun hz2 => ?_) (fun hz2 => ?_)
      · walk_at "w"
        have : q = 0 := by omega
        subst this
        exact kN H1 s1 rfl
      obtain ⟨m, rfl⟩ : ∃ m, q = m + 1 := ⟨q - 1, by omega⟩
      simp only at kN kS
      walk_at "w"
      refine rd_lenL (SqL.of (s1 _ _ ha)) ?_
      walk_at "w"
      refine ifE (fun v H' => v = nV (MTies.frst ts) ∧ H' = H1) ?_ (fun R key => ?_)
      rotate_left
      · refine iteP (fun hp => ?_) (fun hp => ?_)
        · rw [List.length_map] at hp
          obtain ⟨x, hx⟩ : ∃ x, ts.getLast? = some x := by
            cases hg : ts.getLast? with
            | some x => exact ⟨x, rfl⟩
            | none => rw [List.getLast?_eq_none_iff.mp hg] at hp; simp at hp
          walk_at "w"
          refine rd_ixL (SqL.of (s1 _ _ ha)) (atI_last hx) ?_
          walk_at "w"
          refine key _ _ ⟨?_, rfl⟩
          unfold MTies.frst
          rw [hx]
          rfl
        · rw [List.length_map] at hp
          have ht : ts = [] := List.length_eq_zero_iff.mp (by omega)
          walk_at "w"
          exact key _ _ ⟨by rw [ht]; rfl, rfl⟩
      rintro v H' ⟨rfl, rfl⟩
      obtain ⟨f1, f2⟩ := MTies.frst_le hR
      walk_at "w"
      refine rd_minL (ns := U.map fun (u : Nat) => (u : Int)) (by rw [List.map_map]; exact SqL.of hd) (by simpa using hne) fun M hM hle => ?_
      have eM : M = ((MTies.minL U : Nat) : Int) := by
        obtain ⟨u, hu, rfl⟩ := List.mem_map.mp hM
        have g1 := MTies.minL_le hu
        have g2 := hle _ (List.mem_map.mpr ⟨_, MTies.minL_mem hne, rfl⟩)
        omega
      subst eM
      have m16 := hU16 _ (MTies.minL_mem hne)
      walk_at "w"
      refine ⟨_, _, rfl, ⟨by omega, by omega, by omega, by omega⟩, for_src (fs_range (n := (((MTies.minL U : Nat) : Int) + 1 - (MTies.frst ts : Nat)).toNat)) (fun i σ H3 => ∃ x y, σ = [some (.ref a), some (.ref b), some (nV (ts.length + (m + 1))), some (.ref D), some (nV (MTies.frst ts)), x, y] ∧ Same H' H3 ∧ ∀ j, j < i → (if (U.any fun x => MTies.wn (MTies.frst ts + j) x) = true then MTies.search m (ts ++ [MTies.frst ts + j]) U else none) = none) ⟨_, _, rfl, Same.refl _, fun j hj => absurd hj (Nat.not_lt_zero _)⟩ (fun i σ H3 ⟨_, _, _, s, _⟩ => s) ?_ ?_⟩
      · rintro i σ H2 H3 hi ⟨x, y, rfl, s2, old⟩ s3
        have sC := s1.trans (s2.trans s3)
        have hD3 : H3 D = _ := s3 _ _ (s2 _ _ hd)
        have et : ((MTies.frst ts : Nat) : Int) + (i : Nat) = ((MTies.frst ts + i : Nat) : Int) := by omega
        rw [et]
        have ht16 : MTies.frst ts + i < 16 := by omega
        generalize htt : MTies.frst ts + i = t at *
        walk_at "w"
        refine ⟨D, rfl, ⟨_, SqL.of hD3⟩, fun D2 hD2 => ?_⟩
        refine bls_comp (G := fun i => MTies.wn t (U.getD i 0)) (src_list (SqL.of hD3) rfl) hD2 (by rw [List.length_map]; omega) ?_ ?_
        · intro j H4 R hj s4 k
          rw [getD_nat hj]
          walk_at "w"
          exact ⟨_, _, rfl, k H4 (Same.refl _)⟩
        · intro H4 s4 hd4
          walk_at "w"
          refine rd_any (SqL.of hd4) ?_
          rw [List.length_map, MTies.any_at]
          walk_at "w"
          refine iteB (fun hy => ?_) (fun hy => ?_)
          · walk_at "w"
            intro l1 hl1
            have s5 := same_new (o := HO.lst [nV t]) hl1
            have g1 : upd H4 l1 (HO.lst [nV t]) l1 = some (.lst ([t].map nV)) := upd_same
            have e1 : HO.lst [V.int ((t : Nat) : Int)] = HO.lst [nV t] := rfl
            rw [e1]
            generalize upd H4 l1 (HO.lst [nV t]) = H5 at s5 g1 ⊢
            walk_at "w"
            have s15 := sC.trans (s4.trans s5)
            refine rd_cat (SqL.of (s15 _ _ ha)) (SqL.of g1) (by simp; omega) fun l2 hl2 => ?_
            rw [← List.map_append]
            have s6 := same_new (o := HO.lst ((ts ++ [t]).map nV)) hl2
            have g2 : upd H5 l2 (HO.lst ((ts ++ [t]).map nV)) l2 = _ := upd_same
            generalize upd H5 l2 (HO.lst ((ts ++ [t]).map nV)) = H6 at s6 g2 ⊢
            have s16 := s15.trans s6
            walk_at "w"
            obtain ⟨n', rfl⟩ : ∃ n', n = n' + 1 := ⟨n - 1, by omega⟩
            have hv : ts.length + (m + 1) = (ts ++ [t]).length + m := by rw [List.length_append, List.length_singleton]; omega
            refine ⟨l2, D, ts ++ [t], U, m, by omega, by rw [hv], g2, s6 _ _ (s5 _ _ (s4 _ _ hD3)), by rw [← hv]; exact h20, by omega, hU16, MTies.rz_snoc.mpr ⟨hR, by omega, ht16⟩, fun H7 s7 hn => ?_, fun H7 p R s7 hsome hp hpl => ?_⟩
            · walk_at "w"
              refine ⟨rfl, _, rfl, iteN (fun z => absurd rfl z) fun _ => ?_⟩
              walk_at "w"
              refine ⟨_, _, rfl, s2.trans (s3.trans (s4.trans (s5.trans (s6.trans s7)))), fun j hj => ?_⟩
              rcases Nat.lt_or_ge j i with z | z
              · exact old j z
              · rw [show MTies.frst ts + j = t by omega, if_pos hy]
                exact hn
            · walk_at "w"
              refine ⟨rfl, _, rfl, iteN (fun _ => ?_) fun z => by cases z⟩
              walk_at "w"
              refine kS H7 p R (s16.trans s7) (MTies.find_first (i := i) (by omega) old (by rw [htt, if_pos hy]; exact hsome)) (.inr ?_) hpl
              rcases hp with rfl | hp
              · exact s15.free hl2
              · exact s16.free hp
          · walk_at "w"
            refine ⟨_, _, rfl, s2.trans (s3.trans s4), fun j hj => ?_⟩
            rcases Nat.lt_or_ge j i with z | z
            · exact old j z
            · rw [show MTies.frst ts + j = t by omega, if_neg (by rw [hy]; decide)]
      · rintro σ H3 ⟨x, y, rfl, s3, old⟩
        walk_at "w"
        refine kN H3 (s1.trans s3) (MTies.findSome_none fun t ht => ?_)
        have ht := List.mem_range'_1.mp ht
        have := old (t - MTies.frst ts) (by omega)
        rw [show MTies.frst ts + (t - MTies.frst ts) = t by omega] at this
        exact this
theorem ok_ties_behind {f : Addr} {fd : FuncData} (D : DefAt K mg "ties_behind" s_ties_behind ["ties", "lifts", "many"] f fd) (T : Txt K mg c) (c_is_told : CallF P w K mg base "is_told" 2 ["lift", "ties"] (sp_is_told K)) (c_lies_within : CallF P w K mg base "lies_within" 1 ["tie", "lift"] sp_lies_within) : ∀ n, FnOk P w K mg base CX0 (n + 1) f fd ["ties", "lifts", "many"] (sp_ties_behind n)
  | 0 => ⟨fun _ _ _ _ h => h.elim, fun _ _ _ _ _ _ _ _ _ _ _ _ _ h => h.elim⟩
  | n + 1 => ok1_ties_behind D.fn T c_is_told c_lies_within (D.call (ok_ties_behind D T c_is_told c_lies_within n))
noncomputable def fewT (K : List Nat) : Nat → Option (List Nat) := fun m => (MTies.ext m []).find? (MTies.mk · K)
theorem kOf_sub : ∀ (ms : List Int) (k : Int), k ∈ kOf ms → k ∈ ms ∧ k ≠ 0 := by
  refine MM.snoc_ind (fun k h => nomatch h) fun l a ih => ?_
  intro k h
  rw [kOf_snoc] at h
  unfold kStep at h
  split at h
  · exact ⟨List.mem_append_left _ (ih k h).1, (ih k h).2⟩
  · rename_i hn
    rcases List.mem_append.mp h with h | h
    · exact ⟨List.mem_append_left _ (ih k h).1, (ih k h).2⟩
    · rw [List.mem_singleton] at h
      subst h
      exact ⟨by simp, fun z => hn (by simp [z])⟩
noncomputable def kN (ls : List Nat) : List Nat := (kOf (ls.map fun (l : Nat) => (l : Int))).map Int.toNat
theorem kN_cast (ls : List Nat) : (kOf (ls.map fun (l : Nat) => (l : Int))).map V.int = (kN ls).map nV := by
  unfold kN
  rw [List.map_map]
  refine List.map_congr_left fun k hk => ?_
  obtain ⟨l, _, rfl⟩ := List.mem_map.mp (kOf_sub _ k hk).1
  rfl
theorem kN_mem (ls : List Nat) (k : Nat) : k ∈ kN ls ↔ k ∈ ls ∧ k ≠ 0 := by
  unfold kN
  constructor
  · intro h
    obtain ⟨i, hi, rfl⟩ := List.mem_map.mp h
    obtain ⟨h1, h2⟩ := kOf_sub _ i hi
    obtain ⟨l, hl, rfl⟩ := List.mem_map.mp h1
    exact ⟨by simpa using hl, by intro z; apply h2; simpa using z⟩
  · rintro ⟨h1, h2⟩
    refine List.mem_map.mpr ⟨(k : Int), ?_, by simp⟩
    rcases List.mem_cons.mp (kOf_mem _ (k : Int) (List.mem_map.mpr ⟨k, h1, rfl⟩)) with z | z
    · exact absurd (by omega) h2
    · exact z
noncomputable def sp_few_ties (K : PySem.W.Frag) : Sp := fun vs H Q _ => ∃ (a : Addr) (ls : List Nat), vs = [.ref a] ∧ SqL K H a (ls.map nV) ∧ ls.length ≤ 1000 ∧ (∀ l ∈ ls, l < 16) ∧
  ∀ H' p m R, Same H H' → H p = none → (∀ j, j < m → fewT (kN ls) j = none) → fewT (kN ls) m = some R → H' p = some (.lst (R.map nV)) → Q (.ref p) H'
noncomputable abbrev s_few_ties : Stmt := top 9
theorem sc_few_ties : FnScope ["lifts", "kinds", "many", "ties"] ["lifts"] (defScope s_few_ties) := ⟨rfl, rfl, rfl, by decide +kernel, rfl, by decide +kernel, by decide +kernel⟩
theorem ok_few_ties {f : Addr} {fd : FuncData} (F : Fun K "few_ties" "few_ties" s_few_ties f fd) (T : Txt K mg c) (c_kinds_of : CallF P w K mg base "kinds_of" 2 ["masks"] (sp_kinds_of K)) (c_ties_behind : CallF P w K mg base "ties_behind" (8 + 1) ["ties", "lifts", "many"] (sp_ties_behind 8)) : FnOk P w K mg base CX0 10 f fd ["lifts"] (sp_few_ties K) := by
  refine F.ok sc_few_ties (fun vs H Q E h => ?_) (fun cdv A outer s H vs Q E hr h => ?_)
  · obtain ⟨a, ls, rfl, _⟩ := h
    rfl
  · obtain ⟨a, ls, rfl, sa, hl, h16, q⟩ := h
    refine ⟨_, (pss_cons (ps_set (i := 1) sc_few_ties.nd rfl (Or.inl rfl) (pe_callF c_kinds_of (hr.mono (by decide)) (pa_cons (pv 0) pa_nil)))
      (pss_cons (ps_set (i := 2) sc_few_ties.nd rfl (Or.inl rfl) pe_int)
      (pss_cons (ps_set (i := 3) sc_few_ties.nd rfl (Or.inl rfl) pe_non)
      (pss_cons (ps_while PassesOwn.never (pt_cmpR op_isN (pv 3) pe_non (nomark _)) (pss_cons (ps_set (i := 3) sc_few_ties.nd rfl (Or.inl rfl) (pe_callF c_ties_behind hr (pa_cons (pe_lst pa_nil) (pa_cons (pv 1) (pa_cons (pv 2) pa_nil)))))
      (pss_one (ps_aug (i := 2) sc_few_ties.nd rfl (Or.inl rfl) pe_int iop_add))))
      (pss_one (ps_ret (pv 3))))))), ?_⟩
    walk_at "w"
    refine ⟨a, ls.map fun (l : Nat) => (l : Int), rfl, by rw [List.map_map]; exact sa, by rw [List.length_map]; omega, fun H1 p s1 hp h1 => ?_⟩
    have kl : (kN ls).length ≤ ls.length := by
      have := kOf_len (ls.map fun (l : Nat) => (l : Int))
      rw [List.length_map] at this
      unfold kN
      rw [List.length_map]
      exact this
    rw [kN_cast] at h1
    have k16 : ∀ k ∈ kN ls, k < 16 := fun k hk => h16 k ((kN_mem ls k).mp hk).1
    generalize kN ls = Kn at *
    walk_at "w"
    refine ⟨fun r σ H3 => (∃ many : Nat, r = 10 - many ∧ σ = [some (.ref a), some (.ref p), some (nV many), some .non] ∧ Same H1 H3 ∧ ∀ j, j < many → fewT Kn j = none) ∨ (r = 0 ∧ ∃ (many : Nat) (p' : Addr) (R : List Nat), σ = [some (.ref a), some (.ref p), some (nV (many + 1)), some (.ref p')] ∧ Same H1 H3 ∧ H1 p' = none ∧ (∀ j, j < many → fewT Kn j = none) ∧ fewT Kn many = some R ∧ H3 p' = some (.lst (R.map nV))), ⟨10, .inl ⟨0, rfl, rfl, Same.refl _, fun j hj => absurd hj (Nat.not_lt_zero _)⟩⟩, ?_⟩
    rintro r σ H3 (⟨many, rfl, rfl, s3, old⟩ | ⟨rfl, many, p', R, rfl, s3, hp', old, hf, hR⟩)
    · have m4 : many ≤ 4 := by
        rcases Nat.lt_or_ge 4 many with z | z
        · exact absurd (old 4 z) (MTies.few4 k16)
        · exact z
      walk_at "w"
      refine ⟨rfl, _, rfl, iteP (fun _ => ?_) fun z => absurd rfl z⟩
      refine ⟨fun σ H4 => (∃ many' : Nat, many' = many + 1 ∧ σ = [some (.ref a), some (.ref p), some (nV many'), some .non] ∧ Same H1 H4 ∧ ∀ j, j < many' → fewT Kn j = none) ∨ (∃ (p' : Addr) (R : List Nat), σ = [some (.ref a), some (.ref p), some (nV (many + 1)), some (.ref p')] ∧ Same H1 H4 ∧ H1 p' = none ∧ (∀ j, j < many → fewT Kn j = none) ∧ fewT Kn many = some R ∧ H4 p' = some (.lst (R.map nV))), ?_, ?_⟩
      · rintro σ' H' (⟨many', rfl, e1, e2, e3⟩ | ⟨p', R, e1, e2, e3, e4, e5, e6⟩)
        · exact ⟨_, by omega, .inl ⟨_, rfl, e1, e2, e3⟩⟩
        · exact ⟨0, by omega, .inr ⟨rfl, many, p', R, e1, e2, e3, e4, e5, e6⟩⟩
      walk_at "w"
      intro l0 hl0
      have s4 := same_new (o := HO.lst []) hl0
      have g0 : upd H3 l0 (HO.lst []) l0 = some (.lst (([] : List Nat).map nV)) := upd_same
      generalize upd H3 l0 (HO.lst []) = H4 at s4 g0 ⊢
      walk_at "w"
      have hse : MTies.search many [] Kn = fewT Kn many := MTies.search0 k16 old
      refine ⟨l0, p, [], Kn, many, (show many + 1 ≤ 7 by omega), by simp, g0, s4 _ _ (s3 _ _ h1), by simp; omega, by omega, k16, trivial, fun H5 s5 hn => ?_, fun H5 p' R s5 hs hp' hR => ?_⟩
      · walk_at "w"
        refine rd_aug rfl ?_
        walk_at "w"
        refine .inl ⟨_, rfl, rfl, s3.trans (s4.trans s5), fun j hj => ?_⟩
        rcases Nat.lt_or_ge j many with z | z
        · exact old j z
        · rw [show j = many by omega, ← hse]
          exact hn
      · walk_at "w"
        refine rd_aug rfl ?_
        walk_at "w"
        refine .inr ⟨p', R, rfl, s3.trans (s4.trans s5), ?_, old, by rw [← hse]; exact hs, hR⟩
        rcases hp' with rfl | hp'
        · exact s3.free hl0
        · exact s3.free (s4.free hp')
    · walk_at "w"
      refine ⟨rfl, _, rfl, iteP (fun z => by cases z) fun _ => ?_⟩
      walk_at "w"
      exact q H3 p' many R (s1.trans s3) (s1.free hp') old hf hR
end
end K07
open L2
namespace K07
open PySem L2 PySem.Spec PyProof.Rows
seal L2.PE L2.PT L2.PW L2.PA L2.PS L2.PSs L2.PI L2.PG L2.PTs L2.PGs
section
variable {P : Program} {w : World} {K : PySem.W.Frag} {mg : Str → Option Value} {base : Heap} {c : Cs}
noncomputable def mixV (x k : Int) : Int := (x % 1000000007 + 7919 * k + 13) * (x % 1000000007 + 7919 * k + 13) % 1000000007 * 48271 % 2147483647
noncomputable def sp__law_mixed : Sp := fun vs H Q _ => ∃ x k : Int, vs = [.int x, .int k] ∧ (0 ≤ k ∧ k ≤ 1000) ∧ Q (.int (mixV x k)) H
noncomputable abbrev s__law_mixed : Stmt := top 12
theorem sc__law_mixed : FnScope ["_law_cell", "_law_k"] ["_law_cell", "_law_k"] (defScope s__law_mixed) := ⟨rfl, rfl, rfl, by decide +kernel, rfl, by decide +kernel, by decide +kernel⟩
theorem ok__law_mixed {f : Addr} {fd : FuncData} (F : Fun K "_law_mixed" "_law_mixed" s__law_mixed f fd) (T : Txt K mg c) : FnOk P w K mg base CX0 1 f fd ["_law_cell", "_law_k"] sp__law_mixed := by
  refine F.ok sc__law_mixed (fun vs H Q E h => ?_) (fun cdv A outer s H vs Q E hr h => ?_)
  · obtain ⟨x, k, rfl, _⟩ := h
    rfl
  · obtain ⟨x, k, rfl, hk, q⟩ := h
    refine ⟨_, (pss_cons (ps_set (i := 0) sc__law_mixed.nd rfl (Or.inl rfl) (pe_op op_add (pe_op op_add (pe_op op_mod (pv 0) pe_int) (pe_op op_mul pe_int (pv 1))) pe_int))
      (pss_one (ps_ret (pe_op op_mod (pe_op op_mul (pe_op op_mod (pe_op op_mul (pv 0) (pv 0)) pe_int) pe_int) pe_int)))), ?_⟩
    have b1 := Int.emod_nonneg x (show (1000000007 : Int) ≠ 0 by decide)
    have b2 := Int.emod_lt_of_pos x (show (0 : Int) < 1000000007 by decide)
    walk_at "w"
    refine rd_rI (by decide) ?_
    walk_at "w"
    refine rd_rI (.inl ⟨by decide, by decide⟩) ?_
    walk_at "w"
    refine rd_rI (.inl ⟨?_, ?_⟩) ?_
    · show -(2 ^ 64) < x % 1000000007 + 7919 * k + 13
      omega
    · show x % 1000000007 + 7919 * k + 13 < 2 ^ 64
      omega
    walk_at "w"
    refine rd_rI (by decide) ?_
    walk_at "w"
    refine rd_rI (.inr ⟨by decide, by decide⟩) ?_
    walk_at "w"
    refine rd_rI (by decide) ?_
    exact q
noncomputable def sp__law_makes (K : PySem.W.Frag) : Sp := fun vs H Q _ => ∃ (a b : Addr) (ts ls : List Nat), vs = [.ref a, .ref b] ∧ SqL K H a (ts.map nV) ∧ SqL K H b (ls.map nV) ∧ ts.length ≤ 10000 ∧ ∀ H', Same H H' → Q (.bl (MTies.mk ts ls)) H'
noncomputable abbrev s__law_makes : Stmt := top 14
theorem sc__law_makes : FnScope ["_law_masks", "_law_lifts_here", "_law_lift", "_law_union", "_law_mask"] ["_law_masks", "_law_lifts_here"] (defScope s__law_makes) := ⟨rfl, rfl, rfl, by decide +kernel, rfl, by decide +kernel, by decide +kernel⟩
theorem ok__law_makes {f : Addr} {fd : FuncData} (F : Fun K "_law_makes" "_law_makes" s__law_makes f fd) (T : Txt K mg c) : FnOk P w K mg base CX0 1 f fd ["_law_masks", "_law_lifts_here"] (sp__law_makes K) := by
  refine F.ok sc__law_makes (fun vs H Q E h => ?_) (fun cdv A outer s H vs Q E hr h => ?_)
  · obtain ⟨a, b, ts, ls, rfl, _⟩ := h
    rfl
  · obtain ⟨a, b, ts, ls, rfl, sa, sb, hl, q⟩ := h
    refine ⟨_, (pss_cons (ps_for PassesOwn.never rfl (k_pil (K := K) (pv 1)) (pg_name (i := 2) sc__law_makes.nd rfl (Or.inl rfl)) (pss_cons (ps_set (i := 3) sc__law_makes.nd rfl (Or.inl rfl) pe_int)
      (pss_cons (ps_for PassesOwn.never rfl (k_pil (K := K) (pv 0)) (pg_name (i := 4) sc__law_makes.nd rfl (Or.inl rfl)) (pss_one (ps_if (pt_cmpR op_eq (pe_op op_or (pv 4) (pv 2)) (pv 2) (nomark _)) (pss_one (ps_set (i := 3) sc__law_makes.nd rfl (Or.inl rfl) (pe_op op_or (pv 3) (pv 4)))) pss_nil)))
      (pss_one (ps_if (pt_cmpR op_ne (pv 3) (pv 2) (nomark _)) (pss_one (ps_ret pe_bl)) pss_nil)))))
      (pss_one (ps_ret pe_bl))), ?_⟩
    walk_at "w"
    refine ⟨b, rfl, ⟨_, sb⟩, for_src (fs_list sb) (fun i σ H3 => ∃ x y z, σ = [some (.ref a), some (.ref b), x, y, z] ∧ Same H H3 ∧ ∀ j, j < i → MTies.toldB ts (ls.getD j 0) = true) ⟨_, _, _, rfl, Same.refl _, fun j hj => absurd hj (Nat.not_lt_zero _)⟩ (fun i σ H3 ⟨_, _, _, _, s, _⟩ => s) ?_ ?_⟩
    · rintro i σ H2 H3 hi ⟨x, y, z, rfl, s2, old⟩ s3
      have sC := s2.trans s3
      rw [getD_nat hi]
      generalize hlt : ls.getD i 0 = l
      walk_at "w"
      refine ⟨a, rfl, ⟨_, sC.seq sa⟩, for_src (fs_list (sC.seq sa)) (fun j σ H5 => ∃ z, σ = [some (.ref a), some (.ref b), some (nV l), some (nV (MM.uOf ((ts.take j).filter (MTies.wn · l)))), z] ∧ Same H3 H5) ⟨_, rfl, Same.refl _⟩ (fun j σ H5 ⟨_, _, s⟩ => s) ?_ ?_⟩
      · rintro j σ H4 H5 hj ⟨z, rfl, s4⟩ s5
        have hj' : j < ts.length := by simpa using hj
        rw [getD_nat hj]
        walk_at "w"
        rw [bO]
        have e : decide (((ts.getD j 0 ||| l : Nat) : Int) = (l : Int)) = MTies.wn (ts.getD j 0) l := by
          unfold MTies.wn
          exact decide_eq_decide.mpr (by omega)
        rw [e, take_getD hj', List.filter_append]
        refine iteB (fun hy => ?_) (fun hy => ?_)
        · walk_at "w"
          rw [bO]
          refine ⟨some (nV (ts.getD j 0)), ?_, s4.trans s5⟩
          rw [List.filter_cons, hy, if_pos rfl, List.filter_nil, MM.uOf_snoc]
          rfl
        · walk_at "w"
          refine ⟨some (nV (ts.getD j 0)), ?_, s4.trans s5⟩
          rw [List.filter_cons, hy, if_neg (by decide), List.filter_nil, List.append_nil]
          rfl
      · rintro σ H5 ⟨z, rfl, s5⟩
        rw [List.length_map, List.take_length]
        walk_at "w"
        refine iteN (fun hn => ?_) (fun he => ?_)
        · walk_at "w"
          have hm : MTies.mk ts ls = false := by
            cases hk : MTies.mk ts ls with
            | false => rfl
            | true =>
              have hi' : i < ls.length := by simpa using hi
              have := List.all_eq_true.mp hk l (by rw [← hlt, List.getD_eq_getElem?_getD, List.getElem?_eq_getElem hi']; exact List.getElem_mem _)
              have := of_decide_eq_true this
              exact absurd (by rw [this]) hn
          have := q H5 (sC.trans s5)
          rw [hm] at this
          exact this
        · walk_at "w"
          refine ⟨_, _, _, rfl, sC.trans s5, fun j hj => ?_⟩
          rcases Nat.lt_or_ge j i with z | z
          · exact old j z
          · rw [show j = i by omega, hlt]
            exact decide_eq_true (by omega)
    · rintro σ H3 ⟨x, y, z, rfl, s3, old⟩
      rw [List.length_map] at old
      walk_at "w"
      have hm : MTies.mk ts ls = true := List.all_eq_true.mpr fun l hl => by
        obtain ⟨i, hi, rfl⟩ := List.mem_iff_getElem.mp hl
        have := old i hi
        rwa [List.getD_eq_getElem?_getD, List.getElem?_eq_getElem hi] at this
      have := q H3 s3
      rw [hm] at this
      exact this
noncomputable def LLs (H : Hp) (p : Addr) (Ts : List (List Nat)) : Prop := ∃ vs, H p = some (.lst vs) ∧ vs.length = Ts.length ∧ ∀ i, i < Ts.length → ∃ x, vs.getD i .non = .ref x ∧ H x = some (.lst ((Ts.getD i []).map nV))
theorem LLs.same {H H' : Hp} {p : Addr} {Ts : List (List Nat)} (h : LLs H p Ts) (s : Same H H') : LLs H' p Ts := by
  obtain ⟨vs, h1, h2, h3⟩ := h
  exact ⟨vs, s _ _ h1, h2, fun i hi => by obtain ⟨x, e1, e2⟩ := h3 i hi; exact ⟨x, e1, s _ _ e2⟩⟩
noncomputable def sp__law_sets : Sp := fun vs H Q _ => ∃ m : Nat, vs = [nV m] ∧ m ≤ 4 ∧ ∀ H' p, Same H H' → H p = none → LLs H' p (MTies.ext m []) → Q (.ref p) H'
noncomputable abbrev s__law_sets : Stmt := top 15
theorem sc__law_sets : FnScope ["_law_size", "_law_found", "_law_turn", "_law_longer", "_law_one", "_law_least"] ["_law_size"] (defScope s__law_sets) := ⟨rfl, rfl, rfl, by decide +kernel, rfl, by decide +kernel, by decide +kernel⟩
theorem ok__law_sets {f : Addr} {fd : FuncData} (F : Fun K "_law_sets" "_law_sets" s__law_sets f fd) (T : Txt K mg c) : FnOk P w K mg base CX0 1 f fd ["_law_size"] sp__law_sets := by
  refine F.ok sc__law_sets (fun vs H Q E h => ?_) (fun cdv A outer s H vs Q E hr h => ?_)
  · obtain ⟨m, rfl, _⟩ := h
    rfl
  · obtain ⟨m, rfl, hm, q⟩ := h
    refine ⟨_, (pss_cons (ps_set (i := 1) sc__law_sets.nd rfl (Or.inl rfl) (pe_lst (pa_cons (pe_lst pa_nil) pa_nil)))
      (pss_cons (ps_for PassesOwn.never rfl (pi_range1 rfl (T.own _ (by decide)) (pa_cons (pv 0) pa_nil)) (pg_name (i := 2) sc__law_sets.nd rfl (Or.inl rfl)) (pss_cons (ps_set (i := 3) sc__law_sets.nd rfl (Or.inl rfl) (pe_lst pa_nil))
      (pss_cons (ps_for PassesOwn.never rfl (k_pil (K := K) (pv 1)) (pg_name (i := 4) sc__law_sets.nd rfl (Or.inr rfl)) (pss_cons (ps_set (i := 5) sc__law_sets.nd rfl (Or.inl rfl) (pe_op op_add pe_int (pe_callB (k_maxL (K := K)) rfl (T.own _ (by decide)) boot_max' (pa_cons (pe_op (k_cat (K := K)) (pe_lst (pa_cons pe_int pa_nil)) (pv 4)) pa_nil))))
      (pss_one (ps_set (i := 3) sc__law_sets.nd rfl (Or.inl rfl) (pe_op (k_cat (K := K)) (pv 3) (pe_comp1 (pi_range2 rfl (T.own _ (by decide)) (pa_cons (pv 5) (pa_cons pe_int pa_nil))) (fun _ _ _ _ => pts_nil) (fun _ _ _ _ => (pe_op (k_cat (K := K)) (pv 1) (pe_lst (pa_cons (pv 0) pa_nil))))))))))
      (pss_one (ps_set (i := 1) sc__law_sets.nd rfl (Or.inl rfl) (pv 3))))))
      (pss_one (ps_ret (pv 1))))), ?_⟩
    walk_at "w"
    intro l0 hl0
    have s0 := same_new (o := HO.lst []) hl0
    have g0 : upd H l0 (HO.lst []) l0 = some (.lst (([] : List Nat).map nV)) := upd_same
    generalize upd H l0 (HO.lst []) = H0 at s0 g0 ⊢
    walk_at "w"
    intro l1 hl1
    have s1 := same_new (o := HO.lst [V.ref l0]) hl1
    have g1 : upd H0 l1 (HO.lst [V.ref l0]) l1 = _ := upd_same
    generalize upd H0 l1 (HO.lst [V.ref l0]) = H1 at s1 g1 ⊢
    have L0 : LLs H1 l1 (MTies.ext 0 []) := ⟨_, g1, rfl, fun i hi => ⟨l0, by match i, hi with | 0, _ => rfl, by match i, hi with | 0, _ => exact s1 _ _ g0⟩⟩
    have hf0 : H l1 = none := s0.free hl1
    clear g0 g1
    have sA := s0.trans s1
    walk_at "w"
    refine ⟨_, rfl, by omega, by omega, for_src (fs_range0 (n := m)) (fun i σ H3 => ∃ p x y z u, σ = [some (nV m), some (.ref p), x, y, z, u] ∧ Same H1 H3 ∧ H p = none ∧ LLs H3 p (MTies.ext i [])) ⟨_, _, _, _, _, rfl, Same.refl _, hf0, L0⟩ (fun i σ H3 ⟨_, _, _, _, _, _, s, _⟩ => s) ?_ ?_⟩
    · rintro i σ H2 H3 hi ⟨p, x, y, z, u, rfl, s2, hp, L2⟩ s3
      have L3 := L2.same s3
      have sC := s2.trans s3
      have hel : (MTies.ext i []).length ≤ 65536 := Nat.le_trans (MTies.ext_len i) (Nat.pow_le_pow_right (by decide) (show i ≤ 4 by omega))
      have hrz : ∀ j, j < (MTies.ext i []).length → MTies.Rz 1 ((MTies.ext i []).getD j []) ∧ ((MTies.ext i []).getD j []).length = i := fun j hj => by
        rw [List.getD_eq_getElem?_getD, List.getElem?_eq_getElem hj]
        exact MTies.ext_rz (List.getElem_mem _)
      rw [MTies.ext_snoc]
      generalize MTies.ext i [] = Es at *
      walk_at "w"
      intro l2 hl2
      have s4 := same_new (o := HO.lst []) hl2
      have g2 : upd H3 l2 (HO.lst []) l2 = _ := upd_same
      generalize upd H3 l2 (HO.lst []) = H4 at s4 g2 ⊢
      have L4 := L3.same s4
      obtain ⟨vs, gp, lv, ev⟩ := id L4
      walk_at "w"
      refine ⟨p, rfl, ⟨_, SqL.of gp⟩, for_src (fs_list (SqL.of gp)) (fun j σ H5 => ∃ pl z u, σ = [some (nV m), some (.ref p), some (nV i), some (.ref pl), z, u] ∧ Same H4 H5 ∧ H pl = none ∧ LLs H5 pl ((Es.take j).flatMap fun S => (List.range' (MTies.frst S) (16 - MTies.frst S)).map fun t => S ++ [t])) ⟨_, _, _, rfl, Same.refl _, sA.free (sC.free hl2), ⟨_, g2, rfl, fun i hi => absurd hi (Nat.not_lt_zero _)⟩⟩ (fun j σ H5 ⟨_, _, _, _, s, _⟩ => s) ?_ ?_⟩
      · rintro j σ H5 H6 hj ⟨pl, z, u, rfl, s5, hpl, L5⟩ s6
        have hj' : j < Es.length := by omega
        obtain ⟨x1, ex, gx⟩ := ev j hj'
        obtain ⟨rz, rl⟩ := hrz j hj'
        have gS : Es.take (j + 1) = Es.take j ++ [Es.getD j []] := by
          rw [List.take_add_one, List.getElem?_eq_getElem hj', List.getD_eq_getElem?_getD, List.getElem?_eq_getElem hj']
          rfl
        rw [gS, List.flatMap_append]
        generalize Es.getD j [] = S at *
        rw [ex]
        have gx6 := s6 _ _ (s5 _ _ gx)
        have L6 := L5.same s6
        have sE := s5.trans s6
        obtain ⟨f1, f2⟩ := MTies.frst_le rz
        have lB : ((Es.take j).flatMap fun S => (List.range' (MTies.frst S) (16 - MTies.frst S)).map fun t => S ++ [t]).length ≤ 16 * 65536 := by
          rw [List.length_flatMap]
          have key : ∀ l : List (List Nat), (l.map fun S => ((List.range' (MTies.frst S) (16 - MTies.frst S)).map fun t => S ++ [t]).length).sum ≤ 16 * l.length := fun l => by
            induction l with
            | nil => simp
            | cons S l ih =>
              simp only [List.map_cons, List.sum_cons, List.length_cons, List.length_map, List.length_range'] at ih ⊢
              omega
          refine Nat.le_trans (key _) (Nat.mul_le_mul_left _ ?_)
          rw [List.length_take]
          omega
        generalize ((Es.take j).flatMap fun S => (List.range' (MTies.frst S) (16 - MTies.frst S)).map fun t => S ++ [t]) = Bs at *
        walk_at "w"
        intro l3 hl3
        have s7 := same_new (o := HO.lst [V.int 0]) hl3
        have g3 : upd H6 l3 (HO.lst [V.int 0]) l3 = some (.lst ([0].map nV)) := upd_same
        generalize upd H6 l3 (HO.lst [V.int 0]) = H7 at s7 g3 ⊢
        walk_at "w"
        refine rd_cat (SqL.of g3) (SqL.of (s7 _ _ gx6)) (by simp; omega) fun l4 hl4 => ?_
        rw [← List.map_append]
        have s8 := same_new (o := HO.lst (([0] ++ S).map nV)) hl4
        have g4 : upd H7 l4 (HO.lst (([0] ++ S).map nV)) l4 = _ := upd_same
        generalize upd H7 l4 (HO.lst (([0] ++ S).map nV)) = H8 at s8 g4 ⊢
        walk_at "w"
        refine ⟨l4, ([0] ++ S).map fun (t : Nat) => (t : Int), rfl, by rw [List.map_map]; exact SqL.of g4, by simp, fun M hM hle => ?_⟩
        obtain ⟨M', hM', rfl⟩ := List.mem_map.mp hM
        have eF : 1 + M' = MTies.frst S := MTies.frst_max rz hM' fun a ha => by
          have := hle _ (List.mem_map.mpr ⟨a, ha, rfl⟩)
          omega
        walk_at "w"
        rw [show (1 : Int) + (M' : Nat) = ((MTies.frst S : Nat) : Int) by omega]
        have s48 := s7.trans s8
        refine ⟨_, _, rfl, ⟨by omega, by omega, by decide, by decide⟩, fun D hD => ?_⟩
        rw [show ((16 : Int) - ((MTies.frst S : Nat) : Int)).toNat = 16 - MTies.frst S by omega]
        refine comp_any (Pv := fun k y H' => ∃ x, y = .ref x ∧ x ≠ D ∧ H' x = some (.lst ((S ++ [MTies.frst S + k]).map nV))) (src_range rfl) hD (by omega) ?_ ?_ ?_ ?_
        · rintro k y Ha Hb ⟨x, e1, e2, e3⟩ sh
          exact ⟨x, e1, e2, sh _ _ e3⟩
        · rintro k y Ha ys o sh ⟨x, e1, e2, e3⟩ _
          exact ⟨x, e1, e2, by rw [upd_ne e2]; exact e3⟩
        · rintro k H9 R hk sh ⟨ys, hys⟩ kk
          rw [show ((MTies.frst S : Nat) : Int) + (k : Nat) = ((MTies.frst S + k : Nat) : Int) by omega]
          walk_at "w"
          intro l5 hl5
          have z1 := same_new (o := HO.lst [nV (MTies.frst S + k)]) hl5
          have g5 : upd H9 l5 (HO.lst [nV (MTies.frst S + k)]) l5 = some (.lst ([MTies.frst S + k].map nV)) := upd_same
          have e1 : HO.lst [V.int ((MTies.frst S + k : Nat) : Int)] = HO.lst [nV (MTies.frst S + k)] := rfl
          rw [e1]
          generalize upd H9 l5 (HO.lst [nV (MTies.frst S + k)]) = H10 at z1 g5 ⊢
          walk_at "w"
          refine rd_cat (SqL.of (z1 _ _ (sh _ _ (s48 _ _ gx6)))) (SqL.of g5) (by simp; omega) fun l6 hl6 => ?_
          rw [← List.map_append]
          refine kk _ _ (z1.trans (same_new hl6)) ⟨l6, rfl, fun z => ?_, upd_same⟩
          rw [z, z1 _ _ hys] at hl6
          cases hl6
        intro H9 ys s9 g9 ly el
        have L9 := L6.same (s48.trans s9)
        obtain ⟨bs, gb, lb, eb⟩ := id L9
        walk_at "w"
        refine rd_cat (SqL.of gb) (SqL.of g9) (by omega) fun l7 hl7 => ?_
        have s10 := same_new (o := HO.lst (bs ++ ys)) hl7
        have sZ := s48.trans (s9.trans s10)
        walk_at "w"
        refine ⟨l7, _, _, rfl, sE.trans sZ, sA.free (sC.free (s4.free (sE.free (s48.free (s9.free hl7))))), ⟨_, upd_same, ?_, fun k hk => ?_⟩⟩
        · rw [List.length_append, List.length_append, lb, ly]
          simp
        · have hkk : ([S].flatMap fun S => (List.range' (MTies.frst S) (16 - MTies.frst S)).map fun t => S ++ [t]) = (List.range' (MTies.frst S) (16 - MTies.frst S)).map fun t => S ++ [t] := by simp
          rw [hkk] at hk ⊢
          rcases Nat.lt_or_ge k Bs.length with zz | zz
          · obtain ⟨x, e1, e2⟩ := eb k zz
            refine ⟨x, ?_, ?_⟩
            · rw [List.getD_eq_getElem?_getD, List.getElem?_append_left (by omega), ← List.getD_eq_getElem?_getD]
              exact e1
            · rw [List.getD_eq_getElem?_getD (l := Bs ++ _), List.getElem?_append_left zz, ← List.getD_eq_getElem?_getD]
              exact s10 _ _ e2
          · rw [List.length_append, List.length_map, List.length_range'] at hk
            have hky : k - Bs.length < ys.length := by omega
            obtain ⟨x, e1, _, e3⟩ := el (k - Bs.length) _ (List.getElem?_eq_getElem hky)
            refine ⟨x, ?_, ?_⟩
            · rw [List.getD_eq_getElem?_getD, List.getElem?_append_right (by omega), lb, List.getElem?_eq_getElem hky]
              exact e1
            · have e4 : (Bs ++ (List.range' (MTies.frst S) (16 - MTies.frst S)).map fun t => S ++ [t]).getD k [] = S ++ [MTies.frst S + (k - Bs.length)] := by
                rw [List.getD_eq_getElem?_getD, List.getElem?_append_right zz, List.getElem?_map, List.getElem?_range' (by omega)]
                simp
              rw [e4]
              exact s10 _ _ e3
      · rintro σ H5 ⟨pl, z, u, rfl, s5, hpl, L5⟩
        rw [show vs.length = Es.length from lv, List.take_length] at L5
        walk_at "w"
        exact ⟨pl, _, _, _, _, rfl, sC.trans (s4.trans s5), hpl, L5⟩
    · rintro σ H3 ⟨p, x, y, z, u, rfl, s3, hp, L3⟩
      walk_at "w"
      exact q H3 p (sA.trans s3) hp L3
noncomputable def sp__law_first (K : PySem.W.Frag) : Sp := fun vs H Q _ => ∃ (b : Addr) (ls : List Nat), vs = [.ref b] ∧ SqL K H b (ls.map nV) ∧ (∀ l ∈ ls, l < 16) ∧
  ∀ H' p m R, Same H H' → (∀ j, j < m → fewT ls j = none) → fewT ls m = some R → R.length ≤ 4 → H' p = some (.lst (R.map nV)) → Q (.ref p) H'
noncomputable abbrev s__law_first : Stmt := top 16
theorem sc__law_first : FnScope ["_law_lifts_here", "_law_size", "_law_masks"] ["_law_lifts_here"] (defScope s__law_first) := ⟨rfl, rfl, rfl, by decide +kernel, rfl, by decide +kernel, by decide +kernel⟩
theorem ok__law_first {f : Addr} {fd : FuncData} (F : Fun K "_law_first" "_law_first" s__law_first f fd) (T : Txt K mg c) (c__law_sets : CallF P w K mg base "_law_sets" 1 ["_law_size"] sp__law_sets) (c__law_makes : CallF P w K mg base "_law_makes" 1 ["_law_masks", "_law_lifts_here"] (sp__law_makes K)) : FnOk P w K mg base CX0 2 f fd ["_law_lifts_here"] (sp__law_first K) := by
  refine F.ok sc__law_first (fun vs H Q E h => ?_) (fun cdv A outer s H vs Q E hr h => ?_)
  · obtain ⟨b, ls, rfl, _⟩ := h
    rfl
  · obtain ⟨b, ls, rfl, sb, h16, q⟩ := h
    refine ⟨_, (pss_cons (ps_for PassesOwn.never rfl (pi_range1 rfl (T.own _ (by decide)) (pa_cons pe_int pa_nil)) (pg_name (i := 1) sc__law_first.nd rfl (Or.inl rfl)) (pss_one (ps_for PassesOwn.never rfl (k_pil (K := K) (pe_callF c__law_sets hr (pa_cons (pv 1) pa_nil))) (pg_name (i := 2) sc__law_first.nd rfl (Or.inl rfl)) (pss_one (ps_if (pt_val (pe_callF c__law_makes hr (pa_cons (pv 2) (pa_cons (pv 0) pa_nil)))) (pss_one (ps_ret (pv 2))) pss_nil)))))
      (pss_one (ps_ret pe_non))), ?_⟩
    walk_at "w"
    refine ⟨_, rfl, by decide, by decide, for_src (fs_range0 (n := 5)) (fun i σ H3 => ∃ x y, σ = [some (.ref b), x, y] ∧ Same H H3 ∧ ∀ j, j < i → fewT ls j = none) ⟨_, _, rfl, Same.refl _, fun j hj => absurd hj (Nat.not_lt_zero _)⟩ (fun i σ H3 ⟨_, _, _, s, _⟩ => s) ?_ ?_⟩
    · rintro i σ H2 H3 hi ⟨x, y, rfl, s2, old⟩ s3
      have sC := s2.trans s3
      walk_at "w"
      refine ⟨i, rfl, by omega, fun H4 p s4 hp L4 => ?_⟩
      obtain ⟨vs, gp, lv, ev⟩ := id L4
      have hrz : ∀ j, j < (MTies.ext i []).length → ((MTies.ext i []).getD j []).length = i := fun j hj => by
        rw [List.getD_eq_getElem?_getD, List.getElem?_eq_getElem hj]
        exact (MTies.ext_rz (List.getElem_mem _)).2
      have hff : fewT ls i = (MTies.ext i []).find? (MTies.mk · ls) := rfl
      generalize MTies.ext i [] = Es at *
      walk_at "w"
      refine ⟨p, rfl, ⟨_, SqL.of gp⟩, for_src (fs_list (SqL.of gp)) (fun j σ H5 => ∃ y, σ = [some (.ref b), some (nV i), y] ∧ Same H4 H5 ∧ ∀ k, k < j → MTies.mk (Es.getD k []) ls = false) ⟨_, rfl, Same.refl _, fun k hk => absurd hk (Nat.not_lt_zero _)⟩ (fun j σ H5 ⟨_, _, s, _⟩ => s) ?_ ?_⟩
      · rintro j σ H5 H6 hj ⟨y, rfl, s5, no⟩ s6
        have hj' : j < Es.length := by omega
        obtain ⟨x1, ex, gx⟩ := ev j hj'
        have rl := hrz j hj'
        rw [ex]
        have gx6 := s6 _ _ (s5 _ _ gx)
        have sD := sC.trans (s4.trans (s5.trans s6))
        walk_at "w"
        refine ⟨x1, b, Es.getD j [], ls, rfl, SqL.of gx6, sD.seq sb, by omega, fun H7 s7 => ?_⟩
        walk_at "w"
        refine iteB (fun hy => ?_) (fun hy => ?_)
        · walk_at "w"
          refine q H7 x1 i (Es.getD j []) (sD.trans s7) old ?_ (by omega) (s7 _ _ gx6)
          rw [hff, List.find?_eq_some_iff_getElem]
          refine ⟨hy, j, hj', ?_, fun k hk => ?_⟩
          · rw [List.getD_eq_getElem?_getD, List.getElem?_eq_getElem hj']
            rfl
          · have := no k hk
            rw [List.getD_eq_getElem?_getD, List.getElem?_eq_getElem (by omega)] at this
            simpa using this
        · walk_at "w"
          refine ⟨_, rfl, s5.trans (s6.trans s7), fun k hk => ?_⟩
          rcases Nat.lt_or_ge k j with zz | zz
          · exact no k zz
          · rw [show k = j by omega]
            exact hy
      · rintro σ H5 ⟨y, rfl, s5, no⟩
        rw [lv] at no
        walk_at "w"
        refine ⟨_, _, rfl, s2.trans (s3.trans (s4.trans s5)), fun j hj => ?_⟩
        rcases Nat.lt_or_ge j i with zz | zz
        · exact old j zz
        · rw [show j = i by omega, hff, List.find?_eq_none]
          intro S hS
          obtain ⟨k, hk, rfl⟩ := List.mem_iff_getElem.mp hS
          have := no k hk
          rw [List.getD_eq_getElem?_getD, List.getElem?_eq_getElem hk] at this
          simpa using this
    · rintro σ H3 ⟨x, y, rfl, s3, old⟩
      exact absurd (old 4 (by decide)) (MTies.few4 h16)
end
end K07
open L2
namespace K07
open PySem L2 PySem.Spec PyProof.Rows
seal L2.PE L2.PT L2.PW L2.PA L2.PS L2.PSs L2.PI L2.PG L2.PTs L2.PGs
section
variable {P : Program} {w : World} {K : PySem.W.Frag} {mg : Str → Option Value} {base : Heap} {c : Cs}
theorem natsL {α : Type} {l : List α} {G : α → Nat} : (l.map fun i => ((G i : Nat) : Int)).map V.int = (l.map G).map nV := by
  rw [List.map_map, List.map_map]
  rfl
noncomputable def sp__law_lifts (K : PySem.W.Frag) : Sp := fun vs H Q _ => ∃ (a : Addr) (ns : List Int), vs = [.ref a] ∧ SqL K H a (ns.map V.int) ∧ ns.length ≤ 63 ∧ ∀ H' p (ls : List Nat), Same H H' → H p = none → H' p = some (.lst (ls.map nV)) → ls.length ≤ 63 → (∀ l ∈ ls, l < 16) → Q (.ref p) H'
noncomputable abbrev s__law_lifts : Stmt := top 13
theorem sc__law_lifts : FnScope ["_law_script", "_law_whole", "_law_way", "_law_k", "_law_some", "_law_found", "_law_cell", "_law_mask", "_law_one"] ["_law_script"] (defScope s__law_lifts) := ⟨rfl, rfl, rfl, by decide +kernel, rfl, by decide +kernel, by decide +kernel⟩
theorem ok__law_lifts {f : Addr} {fd : FuncData} (F : Fun K "_law_lifts" "_law_lifts" s__law_lifts f fd) (T : Txt K mg c) (c__law_mixed : CallF P w K mg base "_law_mixed" 1 ["_law_cell", "_law_k"] sp__law_mixed) : FnOk P w K mg base CX0 2 f fd ["_law_script"] (sp__law_lifts K) := by
  refine F.ok sc__law_lifts (fun vs H Q E h => ?_) (fun cdv A outer s H vs Q E hr h => ?_)
  · obtain ⟨a, ns, rfl, _⟩ := h
    rfl
  · obtain ⟨a, ns, rfl, sa, hl, q⟩ := h
    refine ⟨_, (pss_cons (ps_set (i := 1) sc__law_lifts.nd rfl (Or.inr rfl) (pe_op op_add (pe_callB (k_sum (K := K)) rfl (T.own _ (by decide)) boot_sum (pa_cons (pv 0) pa_nil)) (pe_callB (k_len (K := K)) rfl (T.own _ (by decide)) boot_len (pa_cons (pv 0) pa_nil))))
      (pss_cons (ps_set (i := 2) sc__law_lifts.nd rfl (Or.inl rfl) (pe_op op_mod (pe_callF c__law_mixed hr (pa_cons (pv 1) (pa_cons pe_int pa_nil))) pe_int))
      (pss_cons (ps_comp1 (i := 4) sc__law_lifts.nd rfl (Or.inl rfl) (pi_range1 rfl (T.own _ (by decide)) (pa_cons (pe_op op_add pe_int (pe_op op_mod (pe_callF c__law_mixed hr (pa_cons (pv 1) (pa_cons pe_int pa_nil))) pe_int)) pa_nil)) (fun _ _ _ _ => pts_nil) (fun _ _ _ _ => (pe_op op_mod (pe_callF c__law_mixed hr (pa_cons (pv 1) (pa_cons (pe_op op_add pe_int (pv 0)) pa_nil))) pe_int)))
      (pss_cons (ps_set (i := 5) sc__law_lifts.nd rfl (Or.inl rfl) (pe_lst pa_nil))
      (pss_cons (ps_for PassesOwn.never rfl (k_pil (K := K) (pv 0)) (pg_name (i := 6) sc__law_lifts.nd rfl (Or.inl rfl)) (pss_cons (ps_set (i := 7) sc__law_lifts.nd rfl (Or.inl rfl) pe_int)
      (pss_cons (ps_for PassesOwn.never rfl (pi_enum (K := K) rfl (T.own _ (by decide)) (pa_cons (pv 4) pa_nil)) (k_gtup (K := K) rfl (pgs_cons (pg_name (i := 3) sc__law_lifts.nd rfl (Or.inl rfl)) (pgs_cons (pg_name (i := 8) sc__law_lifts.nd rfl (Or.inl rfl)) pgs_nil))) (pss_one (ps_if (pt_cmpR op_eq (pe_op op_and (pe_op op_shr (pv 6) (pv 3)) pe_int) pe_int (nomark _)) (pss_one (ps_set (i := 7) sc__law_lifts.nd rfl (Or.inl rfl) (pe_op op_or (pv 7) (pv 8)))) pss_nil)))
      (pss_one (ps_expr (kx_bm (K := K) PySem.F.plainAttrs_list PySem.F.slot_list_append PySem.F.type_list_append mt_append (pv 5) (pa_cons (pe_ix (k_ixl (K := K)) (pe_lst (pa_cons (pe_op op_mod (pv 6) pe_int) (pa_cons (pv 7) (pa_cons (pv 7) (pa_cons (pe_ix (k_ixl (K := K)) (pv 4) (pe_op op_mod (pv 6) (pe_callB (k_len (K := K)) rfl (T.own _ (by decide)) boot_len (pa_cons (pv 4) pa_nil))) (fun _ _ => rfl)) pa_nil))))) (pv 2) (fun _ _ => rfl)) pa_nil)))))))
      (pss_one (ps_ret (pv 5)))))))), ?_⟩
    walk_at "w"
    refine rd_sum sa ?_
    walk_at "w"
    refine rd_lenL sa ?_
    walk_at "w"
    generalize ns.sum + ((ns.map V.int).length : Int) = W
    refine ⟨W, 1, rfl, ⟨by decide, by decide⟩, ?_⟩
    walk_at "w"
    refine rd_rI (by decide) ?_
    obtain ⟨way, eWay, w4⟩ : ∃ s : Nat, mixV W 1 % 4 = (s : Nat) ∧ s < 4 := by
      have h0 := Int.emod_nonneg (mixV W 1) (show (4 : Int) ≠ 0 by decide)
      have h1 := Int.emod_lt_of_pos (mixV W 1) (show (0 : Int) < 4 by decide)
      exact ⟨(mixV W 1 % 4).toNat, by omega, by omega⟩
    rw [eWay]
    walk_at "w"
    refine ⟨W, 9, rfl, ⟨by decide, by decide⟩, ?_⟩
    walk_at "w"
    refine rd_rI (by decide) ?_
    walk_at "w"
    obtain ⟨many, eM, o1, o2⟩ : ∃ s : Nat, 1 + mixV W 9 % 4 = (s : Nat) ∧ 1 ≤ s ∧ s ≤ 4 := by
      have h0 := Int.emod_nonneg (mixV W 9) (show (4 : Int) ≠ 0 by decide)
      have h1 := Int.emod_lt_of_pos (mixV W 9) (show (0 : Int) < 4 by decide)
      exact ⟨(1 + mixV W 9 % 4).toNat, by omega, by omega, by omega⟩
    rw [eM]
    refine ⟨_, rfl, by omega, by omega, fun D hD => ?_⟩
    rw [Int.toNat_natCast]
    refine ints_comp (G := fun i => (((mixV W (2 + (i : Nat)) % 16).toNat : Nat) : Int)) (src_range0 rfl) hD (by omega) ?_ ?_
    · intro i H' R hi s k
      walk_at "w"
      refine ⟨W, _, rfl, ⟨by omega, by omega⟩, ?_⟩
      walk_at "w"
      refine rd_rI (by decide) ?_
      have h0 := Int.emod_nonneg (mixV W (2 + (i : Nat))) (show (16 : Int) ≠ 0 by decide)
      have := k H' (Same.refl _)
      rw [Int.toNat_of_nonneg h0] at this
      exact this
    intro H1 s1 hd
    rw [natsL] at hd
    have u16 : ∀ u ∈ (List.range many).map (fun (i : Nat) => (mixV W (2 + (i : Nat)) % 16).toNat), u < 16 := fun u hu => by
      obtain ⟨i, _, rfl⟩ := List.mem_map.mp hu
      have h1 := Int.emod_lt_of_pos (mixV W (2 + (i : Nat))) (show (0 : Int) < 16 by decide)
      omega
    have ul : ((List.range many).map (fun (i : Nat) => (mixV W (2 + (i : Nat)) % 16).toNat)).length = many := by simp
    generalize (List.range many).map (fun (i : Nat) => (mixV W (2 + (i : Nat)) % 16).toNat) = us at hd u16 ul
    walk_at "w"
    intro q0 hq0
    walk_at "w"
    have s2 := same_new (o := HO.lst []) hq0
    refine ⟨a, rfl, ⟨_, (s1.trans s2).seq sa⟩, for_srcW (H0 := H1) (fs_list (s1.seq sa)) (fun i σ H3 => ∃ x y z u, ∃ ls : List Nat, σ = [some (.ref a), some (.int W), some (nV way), x, some (.ref D), some (.ref q0), y, z, u] ∧ Same H1 H3 ∧ H3 q0 = some (.lst (ls.map nV)) ∧ ls.length = i ∧ ∀ l ∈ ls, l < 16) ⟨_, _, _, _, [], rfl, s2, upd_same, rfl, by simp⟩ (fun i σ H3 ⟨_, _, _, _, _, _, s, _⟩ => s) ?_ ?_⟩
    · rintro i σ H' H3 hi ⟨x, y, z, u, ls, rfl, s', hq', lls, b16⟩ s3
      have hq3 := s3 _ _ hq'
      have sH := s'.trans s3
      have hi' : i < ns.length := by simpa using hi
      rw [getD_int hi]
      generalize ns.getD i 0 = C
      walk_at "w"
      have hd3 := sH _ _ hd
      refine ⟨D, rfl, ⟨_, SqL.of hd3⟩, for_src (fs_enum (SqL.of hd3)) (fun j σ H5 => ∃ z u, ∃ m : Nat, σ = [some (.ref a), some (.int W), some (nV way), z, some (.ref D), some (.ref q0), some (.int C), some (nV m), u] ∧ Same H3 H5 ∧ m < 16) ⟨_, _, 0, rfl, Same.refl _, by decide⟩ (fun j σ H5 ⟨_, _, _, _, s, _⟩ => s) ?_ ?_⟩
      · rintro j σ H4 H5 hj ⟨z', u', m, rfl, s4, m16⟩ s5
        have hj' : j < us.length := by simpa using hj
        rw [getD_nat hj]
        have v16 : us.getD j 0 < 16 := by
          rw [List.getD_eq_getElem?_getD, List.getElem?_eq_getElem hj']
          exact u16 _ (List.getElem_mem _)
        generalize us.getD j 0 = v at v16 ⊢
        walk_at "w"
        refine rd_rI (by omega) ?_
        walk_at "w"
        refine iteP (fun _ => ?_) (fun _ => ?_)
        · walk_at "w"
          rw [bO]
          exact ⟨_, _, _, rfl, s4.trans s5, Nat.or_lt_two_pow (n := 4) m16 v16⟩
        · walk_at "w"
          exact ⟨_, _, _, rfl, s4.trans s5, m16⟩
      · rintro σ H5 ⟨z', u', m, rfl, s5, m16⟩
        walk_at "w"
        have hq5 := s5 _ _ hq3
        have hd5 := s5 _ _ hd3
        refine tyL (SqL.of hq5) ?_
        walk_at "w"
        refine rd_rI (by decide) ?_
        obtain ⟨c0, ec, c16⟩ : ∃ s : Nat, C % 16 = (s : Nat) ∧ s < 16 := by
          have h0 := Int.emod_nonneg C (show (16 : Int) ≠ 0 by decide)
          have h1 := Int.emod_lt_of_pos C (show (0 : Int) < 16 by decide)
          exact ⟨(C % 16).toNat, by omega, by omega⟩
        rw [ec]
        walk_at "w"
        refine rd_lenL (SqL.of hd5) ?_
        rw [List.length_map, ul]
        walk_at "w"
        refine rd_rI (by show (0 : Int) < _; omega) ?_
        have i0 := Int.emod_nonneg C (show ((many : Nat) : Int) ≠ 0 by omega)
        have i1 := Int.emod_lt_of_pos C (show (0 : Int) < ((many : Nat) : Int) by omega)
        walk_at "w"
        refine rd_ixL (SqL.of hd5) (atI_natV i0 (by rw [ul]; exact i1)) ?_
        have v16 : us.getD (C % ((many : Nat) : Int)).toNat 0 < 16 := by
          have hlt : (C % ((many : Nat) : Int)).toNat < us.length := by omega
          rw [List.getD_eq_getElem?_getD, List.getElem?_eq_getElem hlt]
          exact u16 _ (List.getElem_mem _)
        generalize us.getD (C % ((many : Nat) : Int)).toNat 0 = v at v16 ⊢
        walk_at "w"
        intro l9 hl9
        have e9 : HO.lst [V.int ((c0 : Nat) : Int), nV m, nV m, V.int ((v : Nat) : Int)] = HO.lst ([c0, m, m, v].map nV) := rfl
        rw [e9]
        have s9 := same_new (o := HO.lst ([c0, m, m, v].map nV)) hl9
        have g9 : upd H5 l9 (HO.lst ([c0, m, m, v].map nV)) l9 = _ := upd_same
        generalize upd H5 l9 (HO.lst ([c0, m, m, v].map nV)) = H9 at s9 g9 ⊢
        walk_at "w"
        refine rd_ixL (SqL.of g9) (atI_natV (by omega) (by show ((way : Nat) : Int) < 4; omega)) ?_
        have w16 : [c0, m, m, v].getD ((way : Nat) : Int).toNat 0 < 16 := by
          rw [Int.toNat_natCast]
          rcases (show way = 0 ∨ way = 1 ∨ way = 2 ∨ way = 3 by omega) with rfl | rfl | rfl | rfl
          · exact c16
          · exact m16
          · exact m16
          · exact v16
        generalize [c0, m, m, v].getD ((way : Nat) : Int).toNat 0 = z9 at w16 ⊢
        walk_at "w"
        refine rd_app (s9 _ _ hq5) (by rw [List.length_map]; omega) ?_
        walk_at "w"
        refine ⟨_, _, _, _, ls ++ [z9], rfl, same_at (sH.trans (s5.trans s9)) hq0, ?_, ?_, ?_⟩
        · rw [upd_same, List.map_append]
          rfl
        · rw [List.length_append, lls]
          rfl
        · intro l hl'
          rcases List.mem_append.mp hl' with z | z
          · exact b16 l z
          · rw [List.mem_singleton.mp z]
            exact w16
    · rintro σ H3 ⟨x, y, z, u, ls, rfl, s3, hq3, lls, b16⟩
      walk_at "w"
      rw [List.length_map] at lls
      exact q H3 q0 ls (s1.trans s3) (s1.free hq0) hq3 (by omega) b16
theorem told0 {S : List Nat} (h : MTies.Rz 1 S) : MTies.toldB S 0 = true := by
  unfold MTies.toldB
  refine decide_eq_true ?_
  rw [List.filter_eq_nil_iff.mpr fun r hr hw => ?_]
  · rfl
  · have := MTies.wn_le hw
    have := (MTies.rz_ge h r hr).1
    omega
theorem few_same {A B : List Nat} (h : ∀ k, k ∈ A ↔ k ∈ B ∧ k ≠ 0) (j : Nat) : fewT A j = fewT B j := by
  unfold fewT
  have key : ∀ S ∈ MTies.ext j [], MTies.mk S A = MTies.mk S B := fun S hS => by
    have rz := (MTies.ext_rz hS).1
    unfold MTies.mk
    rw [Bool.eq_iff_iff, List.all_eq_true, List.all_eq_true]
    constructor
    · intro g k hk
      by_cases z : k = 0
      · rw [z]; exact told0 rz
      · exact g k ((h k).mpr ⟨hk, z⟩)
    · intro g k hk
      exact g k ((h k).mp hk).1
  generalize MTies.ext j [] = l at key
  induction l with
  | nil => rfl
  | cons S l ih =>
    simp only [List.find?_cons]
    rw [key S (List.mem_cons_self ..), ih fun S' h' => key S' (List.mem_cons_of_mem _ h')]
theorem few_one {A B : List Nat} (h : ∀ k, k ∈ A ↔ k ∈ B ∧ k ≠ 0) {m m' : Nat} {R R' : List Nat} (h1 : ∀ j, j < m → fewT A j = none) (h2 : fewT A m = some R) (h3 : ∀ j, j < m' → fewT B j = none) (h4 : fewT B m' = some R') : R = R' := by
  have e : m = m' := by
    rcases Nat.lt_trichotomy m m' with z | z | z
    · have := h3 m z
      rw [← few_same h, h2] at this
      cases this
    · exact z
    · have := h1 m' z
      rw [few_same h, h4] at this
      cases this
  subst e
  rw [few_same h, h4] at h2
  exact (Option.some.inj h2).symm
noncomputable abbrev s_law : Stmt := top 17
theorem sc_law : FnScope ["_law_script", "_law_lifts_here", "_law_kinds", "_law_due", "_law_handed", "_law_turn", "_law_told", "_law_lift", "_law_within", "_law_free"] ["_law_script"] (defScope s_law) := ⟨rfl, rfl, rfl, by decide +kernel, rfl, by decide +kernel, by decide +kernel⟩
theorem ok_law {f : Addr} {fd : FuncData} (F : Fun K "law" "law" s_law f fd) (T : Txt K mg c) (c__law_lifts : CallF P w K mg base "_law_lifts" 2 ["_law_script"] (sp__law_lifts K)) (c__law_first : CallF P w K mg base "_law_first" 2 ["_law_lifts_here"] (sp__law_first K)) (c_few_ties : CallF P w K mg base "few_ties" 10 ["lifts"] (sp_few_ties K)) (c_trodden_of : CallF P w K mg base "trodden_of" 2 ["lift", "ties"] (sp_trodden_of K)) : FnOk P w K mg base CX0 11 f fd ["_law_script"] (spLaw K) := by
  refine F.ok sc_law (fun vs H Q E h => ?_) (fun cdv A outer s H vs Q E hr h => ?_)
  · obtain ⟨a, ns, rfl, _⟩ := h
    rfl
  · obtain ⟨a, ns, rfl, sa, hl, k⟩ := h
    have hu := hr.units0
    refine ⟨_, (pss_cons (ps_set (i := 1) sc_law.nd rfl (Or.inl rfl) (pe_callF c__law_lifts (hr.mono (by decide)) (pa_cons (pv 0) pa_nil)))
      (pss_cons (ps_set (i := 2) sc_law.nd rfl (Or.inl rfl) (pe_callB (k_sortedS rfl) rfl (T.own _ (by decide)) boot_sorted' (pa_cons (pe_callTy (k_setO rfl) rfl (T.own _ (by decide)) PyProof.Rows.boot_set (pa_cons (pv 1) pa_nil)) pa_nil)))
      (pss_cons (ps_set (i := 3) sc_law.nd rfl (Or.inl rfl) (pe_callF c__law_first (hr.mono (by decide)) (pa_cons (pv 2) pa_nil)))
      (pss_cons (ps_set (i := 4) sc_law.nd rfl (Or.inl rfl) (pe_callTy (k_list (K := K)) rfl (T.own _ (by decide)) boot_list' (pa_cons (pv 1) pa_nil)))
      (pss_cons (ps_for PassesOwn.never rfl (pi_range1 rfl (T.own _ (by decide)) (pa_cons pe_int pa_nil)) (pg_name (i := 5) sc_law.nd rfl (Or.inl rfl)) (pss_cons (ps_set (i := 6) sc_law.nd rfl (Or.inl rfl) (pe_callF c_few_ties hr (pa_cons (pv 4) pa_nil)))
      (pss_cons (ps_if (PW.pt (pw_or (pt_not (pt_val (pe_callB (k_isin (K := K)) rfl (T.own _ (by decide)) boot_isinstance (pa_cons (pv 6) (pa_cons (pe_ty rfl (T.own _ (by decide)) boot_list') pa_nil))))) (pw_or (pt_cmpR (k_nel hu (K := K)) (pv 6) (pv 3) (nomark _)) (pw_or1 (pt_cmpR (k_nel hu (K := K)) (pv 4) (pv 1) (nomark _)))))) (pss_one (ps_ret pe_bl)) pss_nil)
      (pss_cons (ps_if (pt_cmpR (k_nel hu (K := K)) (pe_comp1 (k_pil (K := K) (pv 6)) (fun _ _ _ _ => (pts_one (PW.pt (pw_or (pt_val (pe_callB (k_isin (K := K)) rfl (T.own _ (by decide)) boot_isinstance (pa_cons (pv 0) (pa_cons (pe_ty rfl (T.own _ (by decide)) boot_bool) pa_nil)))) (pw_or1 (pt_not (pt_val (pe_callB (k_isin (K := K)) rfl (T.own _ (by decide)) boot_isinstance (pa_cons (pv 0) (pa_cons (pe_ty rfl (T.own _ (by decide)) boot_int) pa_nil)))))))))) (fun _ _ _ _ => (pv 0))) (pe_lst pa_nil) (nomark _)) (pss_one (ps_ret pe_bl)) pss_nil)
      (pss_one (ps_expr (kx_bm (K := K) PySem.F.plainAttrs_list PySem.F.slot_list_append PySem.F.type_list_append mt_append (pv 6) (pa_cons pe_int pa_nil))))))))
      (pss_cons (ps_for PassesOwn.never rfl (k_pil (K := K) (pv 2)) (pg_name (i := 7) sc_law.nd rfl (Or.inr rfl)) (pss_cons (ps_comp2 (K := K) (i := 8) sc_law.nd rfl (Or.inl rfl) (pi_enum (K := K) rfl (T.own _ (by decide)) (pa_cons (pv 3) pa_nil)) (fun _ _ _ _ => (pts_one (pt_cmpR op_eq (pe_op op_or (pv 1) (pv 2)) (pv 2) (nomark _)))) (fun _ _ _ _ => (pe_op op_add (pv 0) pe_int)))
      (pss_cons (ps_for PassesOwn.never rfl (pi_range1 rfl (T.own _ (by decide)) (pa_cons pe_int pa_nil)) (pg_name (i := 5) sc_law.nd rfl (Or.inl rfl)) (pss_cons (ps_set (i := 6) sc_law.nd rfl (Or.inl rfl) (pe_callF c_trodden_of (hr.mono (by decide)) (pa_cons (pv 7) (pa_cons (pe_callTy (k_list (K := K)) rfl (T.own _ (by decide)) boot_list' (pa_cons (pv 3) pa_nil)) pa_nil))))
      (pss_cons (ps_if (PW.pt (pw_or (pt_not (pt_val (pe_callB (k_isin (K := K)) rfl (T.own _ (by decide)) boot_isinstance (pa_cons (pv 6) (pa_cons (pe_ty rfl (T.own _ (by decide)) boot_list') pa_nil))))) (pw_or1 (pt_cmpR (k_nel hu (K := K)) (pv 6) (pv 8) (nomark _))))) (pss_one (ps_ret pe_bl)) pss_nil)
      (pss_one (ps_expr (kx_bm (K := K) PySem.F.plainAttrs_list PySem.F.slot_list_append PySem.F.type_list_append mt_append (pv 6) (pa_cons pe_int pa_nil)))))))
      (pss_cons (ps_set (i := 9) sc_law.nd rfl (Or.inl rfl) (pe_lst (pa_cons pe_int (pa_cons pe_int (pa_cons pe_int (pa_cons pe_int (pa_cons pe_int pa_nil)))))))
      (pss_one (ps_if (pt_cmpR (k_nel hu (K := K)) (pe_callF c_trodden_of (hr.mono (by decide)) (pa_cons (pv 7) (pa_cons (pe_callTy (k_list (K := K)) rfl (T.own _ (by decide)) boot_list' (pa_cons (pv 9) pa_nil)) pa_nil))) (pe_comp2 (K := K) (pi_enum (K := K) rfl (T.own _ (by decide)) (pa_cons (pv 9) pa_nil)) (fun _ _ _ _ => (pts_one (pt_cmpR op_eq (pe_op op_or (pv 1) (pv 2)) (pv 2) (nomark _)))) (fun _ _ _ _ => (pe_op op_add (pv 0) pe_int))) (nomark _)) (pss_one (ps_ret pe_bl)) pss_nil))))))
      (pss_one (ps_ret pe_bl)))))))), ?_⟩
    walk_at "w"
    refine ⟨a, ns, rfl, sa, hl, fun H1 p ls s1 hp h1 l63 l16 => ?_⟩
    walk_at "w"
    refine rd_setO rfl (ns := ls.map fun (l : Nat) => (l : Int)) (by rw [List.map_map]; exact SqL.of h1) (by rw [List.length_map]; omega) fun l2 hl2 => ?_
    have s2 := same_new (o := HO.ext (HT.WSet P w l2 (HT.metK (ls.map fun (l : Nat) => (l : Int))))) hl2
    have g2 : upd H1 l2 (HO.ext (HT.WSet P w l2 (HT.metK (ls.map fun (l : Nat) => (l : Int))))) l2 = _ := upd_same
    have eX : (HO.ext (HT.WSet (cxOf CX0 P w K mg base [Str.ofString "_law_script", Str.ofString "_law_lifts_here", Str.ofString "_law_kinds", Str.ofString "_law_due", Str.ofString "_law_handed", Str.ofString "_law_turn", Str.ofString "_law_told", Str.ofString "_law_lift", Str.ofString "_law_within", Str.ofString "_law_free"] (Str.ofString "law") (defScope s_law) f cdv A outer s H E).nox.prog (cxOf CX0 P w K mg base [Str.ofString "_law_script", Str.ofString "_law_lifts_here", Str.ofString "_law_kinds", Str.ofString "_law_due", Str.ofString "_law_handed", Str.ofString "_law_turn", Str.ofString "_law_told", Str.ofString "_law_lift", Str.ofString "_law_within", Str.ofString "_law_free"] (Str.ofString "law") (defScope s_law) f cdv A outer s H E).nox.w l2 (HT.metK (ls.map fun (l : Nat) => (l : Int))))) = HO.ext (HT.WSet P w l2 (HT.metK (ls.map fun (l : Nat) => (l : Int)))) := rfl
    rw [eX]
    generalize upd H1 l2 (HO.ext (HT.WSet P w l2 (HT.metK (ls.map fun (l : Nat) => (l : Int))))) = H2 at s2 g2 ⊢
    walk_at "w"
    have mkl := HT.foldK_len (ls.map fun (l : Nat) => (l : Int)) []
    rw [List.length_map] at mkl
    simp only [List.length_nil] at mkl
    refine rd_sortS g2 (Nat.lt_of_le_of_lt (show (HT.metK _).length ≤ 63 from by unfold HT.metK; omega) (by decide)) fun l3 ms hl3 pm pw => ?_
    obtain ⟨Lk, rfl, hLk⟩ : ∃ Lk : List Nat, ms = Lk.map (fun (l : Nat) => (l : Int)) ∧ ∀ k, k ∈ Lk ↔ k ∈ ls := by
      have mem : ∀ i : Int, i ∈ ms ↔ i ∈ ls.map fun (l : Nat) => (l : Int) := fun i => by rw [pm.mem_iff, HT.metK_mem]
      refine ⟨ms.map Int.toNat, ?_, fun k => ?_⟩
      · rw [List.map_map]
        conv => lhs; rw [← List.map_id ms]
        refine List.map_congr_left fun i hi => ?_
        obtain ⟨l, _, rfl⟩ := List.mem_map.mp ((mem i).mp hi)
        simp
      · constructor
        · intro h
          obtain ⟨i, hi, rfl⟩ := List.mem_map.mp h
          obtain ⟨l, hl', rfl⟩ := List.mem_map.mp ((mem i).mp hi)
          simpa using hl'
        · intro h
          exact List.mem_map.mpr ⟨(k : Int), (mem _).mpr (List.mem_map.mpr ⟨k, h, rfl⟩), by simp⟩
    have e3 : HO.lst ((Lk.map fun (l : Nat) => (l : Int)).map V.int) = HO.lst (Lk.map nV) := by rw [List.map_map]; rfl
    rw [e3]
    clear pm pw mkl eX
    have s3 := same_new (o := HO.lst (Lk.map nV)) hl3
    have g3 : upd H2 l3 (HO.lst (Lk.map nV)) l3 = _ := upd_same
    generalize upd H2 l3 (HO.lst (Lk.map nV)) = H3 at s3 g3 ⊢
    walk_at "w"
    refine ⟨l3, Lk, rfl, SqL.of g3, fun l hl' => l16 l ((hLk l).mp hl'), fun H4 pd m R s4 no so R4 gR => ?_⟩
    have hkN : ∀ k, k ∈ kN ls ↔ k ∈ Lk ∧ k ≠ 0 := fun k => by rw [kN_mem, hLk]
    have sP := s2.trans (s3.trans s4)
    have g4 := s4 _ _ g3
    have h4 := sP _ _ h1
    clear s2 s3 s4 g2 g3 h1 hl2 hl3 e3
    walk_at "w"
    refine ⟨p, _, rfl, .inl (SqL.of h4), fun lh hlh => ?_⟩
    have s5 := same_new (o := HO.lst (ls.map nV)) hlh
    have g5 : upd H4 lh (HO.lst (ls.map nV)) lh = _ := upd_same
    generalize upd H4 lh (HO.lst (ls.map nV)) = H5 at s5 g5 ⊢
    have g4 := s5 _ _ g4
    have h4 := s5 _ _ h4
    have gR := s5 _ _ gR
    walk_at "w"
    refine ⟨_, rfl, by decide, by decide, for_src (fs_range0 (n := 2)) (fun i σ H3 => ∃ x y, σ = [some (.ref a), some (.ref p), some (.ref l3), some (.ref pd), some (.ref lh), x, y, none, none, none] ∧ Same H5 H3) ⟨_, _, rfl, Same.refl _⟩ (fun i σ H3 ⟨_, _, _, s⟩ => s) ?_ ?_⟩
    · rintro i σ H6 H7 hi ⟨x, y, rfl, s6⟩ s7
      have sC := s6.trans s7
      walk_at "w"
      refine ⟨lh, ls, rfl, SqL.of (sC _ _ g5), by omega, l16, fun H8 q m' R' s8 hq no' so' gq => ?_⟩
      have eR : R' = R := few_one hkN no' so' no so
      subst eR
      have castN : ∀ (l : List Nat), (l.map fun (t : Nat) => (t : Int)).map V.int = l.map nV := fun l => by rw [List.map_map]; rfl
      walk_at "w"
      refine rd_isin (.lst gq) (kb (b := true) (by decide +kernel)) ?_
      walk_at "w"
      refine rd_neLI (as := R'.map fun (t : Nat) => (t : Int)) (bs := R'.map fun (t : Nat) => (t : Int)) (by rw [castN]; exact SqL.of gq) (by rw [castN]; exact SqL.of (s8 _ _ (sC _ _ gR))) ?_
      rw [decide_eq_true rfl]
      walk_at "w"
      refine rd_neLI (as := ls.map fun (t : Nat) => (t : Int)) (bs := ls.map fun (t : Nat) => (t : Int)) (by rw [castN]; exact SqL.of (s8 _ _ (sC _ _ g5))) (by rw [castN]; exact SqL.of (s8 _ _ (sC _ _ h4))) ?_
      rw [decide_eq_true rfl]
      walk_at "w"
      refine ⟨q, rfl, ⟨_, SqL.of gq⟩, fun D hD => ?_⟩
      refine ints_compF (p := fun _ => false) (G := fun _ => 0) (src_list (SqL.of gq) rfl) hD (by rw [List.length_map]; omega) ?_ ?_ ?_
      · intro j H9 R hj s9 kk
        rw [getD_nat hj]
        walk_at "w"
        refine rd_isin (.int _) (kb (b := false) (by decide +kernel)) ?_
        walk_at "w"
        refine rd_isin (.int _) (kb (b := true) (by decide +kernel)) ?_
        walk_at "w"
        exact kk H9 (Same.refl _)
      · intro j H9 R hj hp' s9 kk
        cases hp'
      · intro H9 s9 hd9
        rw [List.filter_eq_nil_iff.mpr (fun _ _ => by decide)] at hd9
        walk_at "w"
        intro l6 hl6
        have s10 := same_new (o := HO.lst []) hl6
        have g6 : upd H9 l6 (HO.lst []) l6 = some (.lst (([] : List Int).map V.int)) := upd_same
        generalize upd H9 l6 (HO.lst []) = H10 at s10 g6 ⊢
        walk_at "w"
        refine rd_neLI (as := []) (bs := []) (SqL.of (s10 _ _ hd9)) (SqL.of g6) ?_
        rw [decide_eq_true rfl]
        walk_at "w"
        have gq10 := s10 _ _ (s9 _ _ gq)
        refine tyL (SqL.of gq10) ?_
        walk_at "w"
        refine rd_app gq10 (by rw [List.length_map]; omega) ?_
        walk_at "w"
        exact ⟨_, _, rfl, same_at (sC.trans (s8.trans (s9.trans s10))) (sC.free hq)⟩
    · rintro σ H7 ⟨x, y, rfl, s7⟩
      have castN : ∀ (l : List Nat), (l.map fun (t : Nat) => (t : Int)).map V.int = l.map nV := fun l => by rw [List.map_map]; rfl
      have g7 := s7 _ _ g4
      have gR7 := s7 _ _ gR
      clear gR g4 g5 h4 sP hkN no so hLk
      walk_at "w"
      refine ⟨l3, rfl, ⟨_, SqL.of g7⟩, for_src (fs_list (SqL.of g7)) (fun i σ H3 => ∃ x y z u v, σ = [some (.ref a), some (.ref p), some (.ref l3), some (.ref pd), some (.ref lh), x, y, z, u, v] ∧ Same H7 H3) ⟨_, _, _, _, _, rfl, Same.refl _⟩ (fun i σ H3 ⟨_, _, _, _, _, _, s⟩ => s) ?_ ?_⟩
      · rintro i σ H8 H9 hi ⟨x, y, z, u, v, rfl, s8⟩ s9
        have sC := s8.trans s9
        rw [getD_nat hi]
        generalize Lk.getD i 0 = l
        have gR9 := sC _ _ gR7
        walk_at "w"
        refine ⟨pd, rfl, ⟨_, SqL.of gR9⟩, fun D hD => ?_⟩
        refine ints_compF (p := fun i => MTies.wn (R.getD i 0) l) (G := fun (i : Nat) => (i : Int) + 1) (src_enum (SqL.of gR9) rfl rfl) hD (by rw [List.length_map]; omega) ?_ ?_ ?_
        · intro j H10 R0 hj s10 kk
          rw [getD_nat hj]
          walk_at "w"
          rw [bO]
          have e : decide (((R.getD j 0 ||| l : Nat) : Int) = (l : Int)) = MTies.wn (R.getD j 0) l := by
            unfold MTies.wn
            exact decide_eq_decide.mpr (by omega)
          rw [e]
          walk_at "w"
          exact kk H10 (Same.refl _)
        · intro j H10 R0 hj hp' s10 kk
          walk_at "w"
          exact kk H10 (Same.refl _)
        intro H10 s10 hd10
        rw [List.length_map] at hd10
        walk_at "w"
        refine ⟨_, rfl, by decide, by decide, for_src (fs_range0 (n := 2)) (fun j σ H3 => ∃ x y, σ = [some (.ref a), some (.ref p), some (.ref l3), some (.ref pd), some (.ref lh), x, y, some (nV l), some (.ref D), v] ∧ Same H10 H3) ⟨_, _, rfl, Same.refl _⟩ (fun j σ H3 ⟨_, _, _, s⟩ => s) ?_ ?_⟩
        · rintro j σ H11 H12 hj ⟨x', y', rfl, s11⟩ s12
          have sE := s11.trans s12
          have gR12 := sE _ _ (s10 _ _ gR9)
          walk_at "w"
          refine ⟨pd, _, rfl, .inl (SqL.of gR12), fun l5 hl5 => ?_⟩
          have s13 := same_new (o := HO.lst (R.map nV)) hl5
          have g13 : upd H12 l5 (HO.lst (R.map nV)) l5 = _ := upd_same
          generalize upd H12 l5 (HO.lst (R.map nV)) = H13 at s13 g13 ⊢
          walk_at "w"
          refine ⟨l, l5, R, rfl, SqL.of g13, by omega, fun H14 q s14 hq gq => ?_⟩
          walk_at "w"
          refine rd_isin (.lst gq) (kb (b := true) (by decide +kernel)) ?_
          walk_at "w"
          refine rd_neLI (SqL.of gq) (SqL.of (s14 _ _ (s13 _ _ (sE _ _ hd10)))) ?_
          rw [decide_eq_true rfl]
          walk_at "w"
          refine tyL (SqL.of gq) ?_
          walk_at "w"
          refine rd_app gq (by rw [List.length_map, List.length_map]; have := List.length_filter_le (fun i => MTies.wn (R.getD i 0) l) (List.range R.length); rw [List.length_range] at this; omega) ?_
          walk_at "w"
          exact ⟨_, _, rfl, same_at (sE.trans (s13.trans s14)) (sE.free (s13.free hq))⟩
        · rintro σ H12 ⟨x', y', rfl, s12⟩
          walk_at "w"
          intro l8 hl8
          have s13 := same_new (o := HO.lst ([0, 15, 3, 3, 1].map nV)) hl8
          have g13 : upd H12 l8 (HO.lst ([0, 15, 3, 3, 1].map nV)) l8 = _ := upd_same
          have e8 : HO.lst [V.int 0, V.int 15, V.int 3, V.int 3, V.int 1] = HO.lst ([0, 15, 3, 3, 1].map nV) := rfl
          rw [e8]
          generalize upd H12 l8 (HO.lst ([0, 15, 3, 3, 1].map nV)) = H13 at s13 g13 ⊢
          generalize hfr : ([0, 15, 3, 3, 1] : List Nat) = F5 at *
          have lf : F5.length = 5 := by rw [← hfr]; rfl
          walk_at "w"
          refine ⟨l8, _, rfl, .inl (SqL.of g13), fun l9 hl9 => ?_⟩
          have s14 := same_new (o := HO.lst (F5.map nV)) hl9
          have g14 : upd H13 l9 (HO.lst (F5.map nV)) l9 = _ := upd_same
          generalize upd H13 l9 (HO.lst (F5.map nV)) = H14 at s14 g14 ⊢
          have g13 := s14 _ _ g13
          walk_at "w"
          refine ⟨l, l9, F5, rfl, SqL.of g14, by omega, fun H15 q s15 hq gq => ?_⟩
          have g13 := s15 _ _ g13
          walk_at "w"
          refine ⟨l8, rfl, ⟨_, SqL.of g13⟩, fun D2 hD2 => ?_⟩
          refine ints_compF (p := fun i => MTies.wn (F5.getD i 0) l) (G := fun (i : Nat) => (i : Int) + 1) (src_enum (SqL.of g13) rfl rfl) hD2 (by rw [List.length_map]; omega) ?_ ?_ ?_
          · intro j H16 R0 hj s16 kk
            rw [getD_nat hj]
            walk_at "w"
            rw [bO]
            have e : decide (((F5.getD j 0 ||| l : Nat) : Int) = (l : Int)) = MTies.wn (F5.getD j 0) l := by
              unfold MTies.wn
              exact decide_eq_decide.mpr (by omega)
            rw [e]
            walk_at "w"
            exact kk H16 (Same.refl _)
          · intro j H16 R0 hj hp' s16 kk
            walk_at "w"
            exact kk H16 (Same.refl _)
          intro H16 s16 hd16
          rw [List.length_map] at hd16
          walk_at "w"
          refine rd_neLI (SqL.of (s16 _ _ gq)) (SqL.of hd16) ?_
          rw [decide_eq_true rfl]
          walk_at "w"
          exact ⟨_, _, _, _, _, rfl, sC.trans (s10.trans (s12.trans (s13.trans (s14.trans (s15.trans s16)))))⟩
      · rintro σ H8 ⟨x, y, z, u, v, rfl, s8⟩
        walk_at "w"
        exact k _
end
end K07
namespace K07
open PySem L2 PySem.Spec PyProof.Rows
theorem all_mk {l : PySem.W.OpenLaw} {w : World} {K : PySem.W.Frag} {h : Heap} {mg : Str → Option Value} {fa : Addr} (X : K.In h) (G : h.Ns mainGlobals mg) (hfa : mg "law" = some (.ref fa))
    {f0 : Addr} {od0 an0 : Option Addr} {sl0 : Array (Option Value)} {oc0 kV0 dc0 pm0 cd0 ct0 : Value}
    {f1 : Addr} {od1 an1 : Option Addr} {sl1 : Array (Option Value)} {oc1 kV1 dc1 pm1 cd1 ct1 : Value}
    {f2 : Addr} {od2 an2 : Option Addr} {sl2 : Array (Option Value)} {oc2 kV2 dc2 pm2 cd2 ct2 : Value}
    {f3 : Addr} {od3 an3 : Option Addr} {sl3 : Array (Option Value)} {oc3 kV3 dc3 pm3 cd3 ct3 : Value}
    {f4 : Addr} {od4 an4 : Option Addr} {sl4 : Array (Option Value)} {oc4 kV4 dc4 pm4 cd4 ct4 : Value}
    {f5 : Addr} {od5 an5 : Option Addr} {sl5 : Array (Option Value)} {oc5 kV5 dc5 pm5 cd5 ct5 : Value}
    {f6 : Addr} {od6 an6 : Option Addr} {sl6 : Array (Option Value)} {oc6 kV6 dc6 pm6 cd6 ct6 : Value}
    {f7 : Addr} {od7 an7 : Option Addr} {sl7 : Array (Option Value)} {oc7 kV7 dc7 pm7 cd7 ct7 : Value}
    {f8 : Addr} {od8 an8 : Option Addr} {sl8 : Array (Option Value)} {oc8 kV8 dc8 pm8 cd8 ct8 : Value}
    {f9 : Addr} {od9 an9 : Option Addr} {sl9 : Array (Option Value)} {oc9 kV9 dc9 pm9 cd9 ct9 : Value}
    {f10 : Addr} {od10 an10 : Option Addr} {sl10 : Array (Option Value)} {oc10 kV10 dc10 pm10 cd10 ct10 : Value}
    {f11 : Addr} {od11 an11 : Option Addr} {sl11 : Array (Option Value)} {oc11 kV11 dc11 pm11 cd11 ct11 : Value}
    {f12 : Addr} {od12 an12 : Option Addr} {sl12 : Array (Option Value)} {oc12 kV12 dc12 pm12 cd12 ct12 : Value}
    {f13 : Addr} {od13 an13 : Option Addr} {sl13 : Array (Option Value)} {oc13 kV13 dc13 pm13 cd13 ct13 : Value}
    (a0 : PySem.W.nsIn K mainGlobals "union_of" = some (some (.ref f0)))
    (l0 : K.lookup f0 = some ⟨oc0, od0, .func (PySem.W.fnOf "union_of" "union_of" (defArgs s_union_of) (defBody s_union_of) (defScope s_union_of) .none kV0 dc0 pm0 an0 cd0 ct0), sl0⟩)
    (c0 : PySem.W.codeIn K cd0 "union_of" = true)
    (k0 : PySem.W.keepIn K (.ref f0) = true)
    (a1 : PySem.W.nsIn K mainGlobals "numbered_kinds" = some (some (.ref f1)))
    (l1 : K.lookup f1 = some ⟨oc1, od1, .func (PySem.W.fnOf "numbered_kinds" "numbered_kinds" (defArgs s_numbered_kinds) (defBody s_numbered_kinds) (defScope s_numbered_kinds) .none kV1 dc1 pm1 an1 cd1 ct1), sl1⟩)
    (c1 : PySem.W.codeIn K cd1 "numbered_kinds" = true)
    (k1 : PySem.W.keepIn K (.ref f1) = true)
    (a2 : PySem.W.nsIn K mainGlobals "kinds_of" = some (some (.ref f2)))
    (l2 : K.lookup f2 = some ⟨oc2, od2, .func (PySem.W.fnOf "kinds_of" "kinds_of" (defArgs s_kinds_of) (defBody s_kinds_of) (defScope s_kinds_of) .none kV2 dc2 pm2 an2 cd2 ct2), sl2⟩)
    (c2 : PySem.W.codeIn K cd2 "kinds_of" = true)
    (k2 : PySem.W.keepIn K (.ref f2) = true)
    (a3 : PySem.W.nsIn K mainGlobals "lies_within" = some (some (.ref f3)))
    (l3 : K.lookup f3 = some ⟨oc3, od3, .func (PySem.W.fnOf "lies_within" "lies_within" (defArgs s_lies_within) (defBody s_lies_within) (defScope s_lies_within) .none kV3 dc3 pm3 an3 cd3 ct3), sl3⟩)
    (c3 : PySem.W.codeIn K cd3 "lies_within" = true)
    (k3 : PySem.W.keepIn K (.ref f3) = true)
    (a4 : PySem.W.nsIn K mainGlobals "is_told" = some (some (.ref f4)))
    (l4 : K.lookup f4 = some ⟨oc4, od4, .func (PySem.W.fnOf "is_told" "is_told" (defArgs s_is_told) (defBody s_is_told) (defScope s_is_told) .none kV4 dc4 pm4 an4 cd4 ct4), sl4⟩)
    (c4 : PySem.W.codeIn K cd4 "is_told" = true)
    (k4 : PySem.W.keepIn K (.ref f4) = true)
    (a5 : PySem.W.nsIn K mainGlobals "trodden_of" = some (some (.ref f5)))
    (l5 : K.lookup f5 = some ⟨oc5, od5, .func (PySem.W.fnOf "trodden_of" "trodden_of" (defArgs s_trodden_of) (defBody s_trodden_of) (defScope s_trodden_of) .none kV5 dc5 pm5 an5 cd5 ct5), sl5⟩)
    (c5 : PySem.W.codeIn K cd5 "trodden_of" = true)
    (k5 : PySem.W.keepIn K (.ref f5) = true)
    (a6 : PySem.W.nsIn K mainGlobals "ties_behind" = some (some (.ref f6)))
    (l6 : K.lookup f6 = some ⟨oc6, od6, .func (PySem.W.fnOf "ties_behind" "ties_behind" (defArgs s_ties_behind) (defBody s_ties_behind) (defScope s_ties_behind) .none kV6 dc6 pm6 an6 cd6 ct6), sl6⟩)
    (c6 : PySem.W.codeIn K cd6 "ties_behind" = true)
    (k6 : PySem.W.keepIn K (.ref f6) = true)
    (a7 : PySem.W.nsIn K mainGlobals "few_ties" = some (some (.ref f7)))
    (l7 : K.lookup f7 = some ⟨oc7, od7, .func (PySem.W.fnOf "few_ties" "few_ties" (defArgs s_few_ties) (defBody s_few_ties) (defScope s_few_ties) .none kV7 dc7 pm7 an7 cd7 ct7), sl7⟩)
    (c7 : PySem.W.codeIn K cd7 "few_ties" = true)
    (k7 : PySem.W.keepIn K (.ref f7) = true)
    (a8 : PySem.W.nsIn K mainGlobals "_law_mixed" = some (some (.ref f8)))
    (l8 : K.lookup f8 = some ⟨oc8, od8, .func (PySem.W.fnOf "_law_mixed" "_law_mixed" (defArgs s__law_mixed) (defBody s__law_mixed) (defScope s__law_mixed) .none kV8 dc8 pm8 an8 cd8 ct8), sl8⟩)
    (c8 : PySem.W.codeIn K cd8 "_law_mixed" = true)
    (k8 : PySem.W.keepIn K (.ref f8) = true)
    (a9 : PySem.W.nsIn K mainGlobals "_law_makes" = some (some (.ref f9)))
    (l9 : K.lookup f9 = some ⟨oc9, od9, .func (PySem.W.fnOf "_law_makes" "_law_makes" (defArgs s__law_makes) (defBody s__law_makes) (defScope s__law_makes) .none kV9 dc9 pm9 an9 cd9 ct9), sl9⟩)
    (c9 : PySem.W.codeIn K cd9 "_law_makes" = true)
    (k9 : PySem.W.keepIn K (.ref f9) = true)
    (a10 : PySem.W.nsIn K mainGlobals "_law_sets" = some (some (.ref f10)))
    (l10 : K.lookup f10 = some ⟨oc10, od10, .func (PySem.W.fnOf "_law_sets" "_law_sets" (defArgs s__law_sets) (defBody s__law_sets) (defScope s__law_sets) .none kV10 dc10 pm10 an10 cd10 ct10), sl10⟩)
    (c10 : PySem.W.codeIn K cd10 "_law_sets" = true)
    (k10 : PySem.W.keepIn K (.ref f10) = true)
    (a11 : PySem.W.nsIn K mainGlobals "_law_first" = some (some (.ref f11)))
    (l11 : K.lookup f11 = some ⟨oc11, od11, .func (PySem.W.fnOf "_law_first" "_law_first" (defArgs s__law_first) (defBody s__law_first) (defScope s__law_first) .none kV11 dc11 pm11 an11 cd11 ct11), sl11⟩)
    (c11 : PySem.W.codeIn K cd11 "_law_first" = true)
    (k11 : PySem.W.keepIn K (.ref f11) = true)
    (a12 : PySem.W.nsIn K mainGlobals "_law_lifts" = some (some (.ref f12)))
    (l12 : K.lookup f12 = some ⟨oc12, od12, .func (PySem.W.fnOf "_law_lifts" "_law_lifts" (defArgs s__law_lifts) (defBody s__law_lifts) (defScope s__law_lifts) .none kV12 dc12 pm12 an12 cd12 ct12), sl12⟩)
    (c12 : PySem.W.codeIn K cd12 "_law_lifts" = true)
    (k12 : PySem.W.keepIn K (.ref f12) = true)
    (a13 : PySem.W.nsIn K mainGlobals "law" = some (some (.ref f13)))
    (l13 : K.lookup f13 = some ⟨oc13, od13, .func (PySem.W.fnOf "law" "law" (defArgs s_law) (defBody s_law) (defScope s_law) .none kV13 dc13 pm13 an13 cd13 ct13), sl13⟩)
    (c13 : PySem.W.codeIn K cd13 "law" = true)
    (k13 : PySem.W.keepIn K (.ref f13) = true)
    (z0 : PySem.W.nsIn K mainGlobals "isinstance" = some none)
    (z1 : PySem.W.nsIn K mainGlobals "int" = some none)
    (z2 : PySem.W.nsIn K mainGlobals "bool" = some none)
    (z3 : PySem.W.nsIn K mainGlobals "list" = some none)
    (z4 : PySem.W.nsIn K mainGlobals "set" = some none)
    (z5 : PySem.W.nsIn K mainGlobals "len" = some none)
    (z6 : PySem.W.nsIn K mainGlobals "any" = some none)
    (z7 : PySem.W.nsIn K mainGlobals "range" = some none)
    (z8 : PySem.W.nsIn K mainGlobals "sum" = some none)
    (z9 : PySem.W.nsIn K mainGlobals "enumerate" = some none)
    (z10 : PySem.W.nsIn K mainGlobals "min" = some none)
    (z11 : PySem.W.nsIn K mainGlobals "max" = some none)
    (z12 : PySem.W.nsIn K mainGlobals "sorted" = some none)
    : ∃ fd : FuncData, (∀ (s : Shared) (v : Value), BindsTo s fd ⟨[v], []⟩ [("_law_script", v)]) ∧ ∀ base : Heap, K.In base → base.Ns mainGlobals mg → FnOk l.prog w K mg base CX0 11 fa fd ["_law_script"] (spLaw K) := by
  have e := hfa.symm.trans (PySem.W.mg_of X G a13)
  cases e
  have F0 := fun_mk (st := s_union_of) l0 c0 k0
  have B0 := F0.binds (ps := ["masks"]) fun _ _ _ _ _ _ => arg1 fun _ => rfl
  have D0 : DefAt K mg "union_of" s_union_of ["masks"] _ _ := ⟨F0, PySem.W.mg_of X G a0, B0⟩
  have F1 := fun_mk (st := s_numbered_kinds) l1 c1 k1
  have B1 := F1.binds (ps := ["masks"]) fun _ _ _ _ _ _ => arg1 fun _ => rfl
  have D1 : DefAt K mg "numbered_kinds" s_numbered_kinds ["masks"] _ _ := ⟨F1, PySem.W.mg_of X G a1, B1⟩
  have F2 := fun_mk (st := s_kinds_of) l2 c2 k2
  have B2 := F2.binds (ps := ["masks"]) fun _ _ _ _ _ _ => arg1 fun _ => rfl
  have D2 : DefAt K mg "kinds_of" s_kinds_of ["masks"] _ _ := ⟨F2, PySem.W.mg_of X G a2, B2⟩
  have F3 := fun_mk (st := s_lies_within) l3 c3 k3
  have B3 := F3.binds (ps := ["tie", "lift"]) fun _ _ _ _ _ _ => arg2 fun _ _ => rfl
  have D3 : DefAt K mg "lies_within" s_lies_within ["tie", "lift"] _ _ := ⟨F3, PySem.W.mg_of X G a3, B3⟩
  have F4 := fun_mk (st := s_is_told) l4 c4 k4
  have B4 := F4.binds (ps := ["lift", "ties"]) fun _ _ _ _ _ _ => arg2 fun _ _ => rfl
  have D4 : DefAt K mg "is_told" s_is_told ["lift", "ties"] _ _ := ⟨F4, PySem.W.mg_of X G a4, B4⟩
  have F5 := fun_mk (st := s_trodden_of) l5 c5 k5
  have B5 := F5.binds (ps := ["lift", "ties"]) fun _ _ _ _ _ _ => arg2 fun _ _ => rfl
  have D5 : DefAt K mg "trodden_of" s_trodden_of ["lift", "ties"] _ _ := ⟨F5, PySem.W.mg_of X G a5, B5⟩
  have F6 := fun_mk (st := s_ties_behind) l6 c6 k6
  have B6 := F6.binds (ps := ["ties", "lifts", "many"]) fun _ _ _ _ _ _ => arg3 fun _ _ _ => rfl
  have D6 : DefAt K mg "ties_behind" s_ties_behind ["ties", "lifts", "many"] _ _ := ⟨F6, PySem.W.mg_of X G a6, B6⟩
  have F7 := fun_mk (st := s_few_ties) l7 c7 k7
  have B7 := F7.binds (ps := ["lifts"]) fun _ _ _ _ _ _ => arg1 fun _ => rfl
  have D7 : DefAt K mg "few_ties" s_few_ties ["lifts"] _ _ := ⟨F7, PySem.W.mg_of X G a7, B7⟩
  have F8 := fun_mk (st := s__law_mixed) l8 c8 k8
  have B8 := F8.binds (ps := ["_law_cell", "_law_k"]) fun _ _ _ _ _ _ => arg2 fun _ _ => rfl
  have D8 : DefAt K mg "_law_mixed" s__law_mixed ["_law_cell", "_law_k"] _ _ := ⟨F8, PySem.W.mg_of X G a8, B8⟩
  have F9 := fun_mk (st := s__law_makes) l9 c9 k9
  have B9 := F9.binds (ps := ["_law_masks", "_law_lifts_here"]) fun _ _ _ _ _ _ => arg2 fun _ _ => rfl
  have D9 : DefAt K mg "_law_makes" s__law_makes ["_law_masks", "_law_lifts_here"] _ _ := ⟨F9, PySem.W.mg_of X G a9, B9⟩
  have F10 := fun_mk (st := s__law_sets) l10 c10 k10
  have B10 := F10.binds (ps := ["_law_size"]) fun _ _ _ _ _ _ => arg1 fun _ => rfl
  have D10 : DefAt K mg "_law_sets" s__law_sets ["_law_size"] _ _ := ⟨F10, PySem.W.mg_of X G a10, B10⟩
  have F11 := fun_mk (st := s__law_first) l11 c11 k11
  have B11 := F11.binds (ps := ["_law_lifts_here"]) fun _ _ _ _ _ _ => arg1 fun _ => rfl
  have D11 : DefAt K mg "_law_first" s__law_first ["_law_lifts_here"] _ _ := ⟨F11, PySem.W.mg_of X G a11, B11⟩
  have F12 := fun_mk (st := s__law_lifts) l12 c12 k12
  have B12 := F12.binds (ps := ["_law_script"]) fun _ _ _ _ _ _ => arg1 fun _ => rfl
  have D12 : DefAt K mg "_law_lifts" s__law_lifts ["_law_script"] _ _ := ⟨F12, PySem.W.mg_of X G a12, B12⟩
  have F13 := fun_mk (st := s_law) l13 c13 k13
  have B13 := F13.binds (ps := ["_law_script"]) fun _ _ _ _ _ _ => arg1 fun _ => rfl
  have D13 : DefAt K mg "law" s_law ["_law_script"] _ _ := ⟨F13, PySem.W.mg_of X G a13, B13⟩
  have T : Txt K mg ⟨()⟩ := {
    own := fun x hx => by
      simp only [List.mem_cons, List.not_mem_nil, or_false] at hx
      rcases hx with rfl | rfl | rfl | rfl | rfl | rfl | rfl | rfl | rfl | rfl | rfl | rfl | rfl
      · exact PySem.W.mg_none_of X G z0
      · exact PySem.W.mg_none_of X G z1
      · exact PySem.W.mg_none_of X G z2
      · exact PySem.W.mg_none_of X G z3
      · exact PySem.W.mg_none_of X G z4
      · exact PySem.W.mg_none_of X G z5
      · exact PySem.W.mg_none_of X G z6
      · exact PySem.W.mg_none_of X G z7
      · exact PySem.W.mg_none_of X G z8
      · exact PySem.W.mg_none_of X G z9
      · exact PySem.W.mg_none_of X G z10
      · exact PySem.W.mg_none_of X G z11
      · exact PySem.W.mg_none_of X G z12
  }
  exact ⟨_, fun s v => .of_eq rfl, fun base _ _ => by
    have c_union_of := D0.call (ok_union_of (P := l.prog) (w := w) (base := base) F0 T)
    have c_numbered_kinds := D1.call (ok_numbered_kinds (P := l.prog) (w := w) (base := base) F1 T)
    have c_kinds_of := D2.call (ok_kinds_of (P := l.prog) (w := w) (base := base) F2 T c_numbered_kinds)
    have c_lies_within := D3.call (ok_lies_within (P := l.prog) (w := w) (base := base) F3 T)
    have c_is_told := D4.call (ok_is_told (P := l.prog) (w := w) (base := base) F4 T c_lies_within c_union_of)
    have c_trodden_of := D5.call (ok_trodden_of (P := l.prog) (w := w) (base := base) F5 T c_lies_within)
    have c_few_ties := D7.call (ok_few_ties (P := l.prog) (w := w) (base := base) F7 T c_kinds_of (D6.call (ok_ties_behind (P := l.prog) (w := w) (base := base) D6 T c_is_told c_lies_within 8)))
    have c__law_mixed := D8.call (ok__law_mixed (P := l.prog) (w := w) (base := base) F8 T)
    have c__law_makes := D9.call (ok__law_makes (P := l.prog) (w := w) (base := base) F9 T)
    have c__law_sets := D10.call (ok__law_sets (P := l.prog) (w := w) (base := base) F10 T)
    have c__law_first := D11.call (ok__law_first (P := l.prog) (w := w) (base := base) F11 T c__law_sets c__law_makes)
    have c__law_lifts := D12.call (ok__law_lifts (P := l.prog) (w := w) (base := base) F12 T c__law_mixed)
    exact ok_law F13 T c__law_lifts c__law_first c_few_ties c_trodden_of
    ⟩
theorem walk {l : PySem.W.OpenLaw} {q : Program} {loose : List Str} {XP : (Str → Option Value) → Heap → Prop} {YP : World → Heap → Prop} {d : DefRec} {K : Params → PySem.W.Frag} (hn : l.most = some 63) (hdf : d.params.defaults = [])
    (hY : ∀ (w : World) (h : Heap), YP w h → (K w.params).In h)
    (F : ∀ (w : World) (mg : Str → Option Value) (fa : Addr) (h : Heap), (K w.params).In h → h.Ns mainGlobals mg → mg d.name = some (.ref fa) →
      ∃ fd : FuncData, (∀ (s : Shared) (v : Value), BindsTo s fd ⟨[v], []⟩ [("_law_script", v)]) ∧ ∀ base : Heap, (K w.params).In base → base.Ns mainGlobals mg → FnOk l.prog w (K w.params) mg base CX0 11 fa fd ["_law_script"] (spLaw (K w.params))) :
    PySem.W.WalkO q loose XP YP l.row.toRowW d [] (fun f vs => PySem.call f vs) :=
  L2.walk_of (n := 63) (k := 11) (x := "_law_script") (CX := fun _ => CX0) (sp := fun w => spLaw (K w.params)) hn (by decide) hdf ⟨rfl, by decide, by decide⟩ hY F (fun _ _ a ns hl _ hS => ⟨a, ns, rfl, hS, hl, fun _ => rfl⟩) fun _ _ _ _ _ z => z
end K07
open PySem PySem.W PyProof.Rows
set_option maxRecDepth 100000 in
set_option maxHeartbeats 0 in
theorem PySem.Challenge.cw_loomwright_k07_whole_fewest_ties_holds : PySem.Challenge.rw_loomwright_k07_whole_fewest_ties.Holds := by
  w_on; o_law; k_head; (case hw => w_witness2)
  k_fill
  refine K07.walk (l := PySem.Challenge.rw_loomwright_k07_whole_fewest_ties) rfl rfl (fun w h Y => PySem.W.kIn_of Y) ?F
  case F =>
    intro w mg fa h KX G hmg
    refine' K07.all_mk KX G hmg ?a0 ?l0 ?c0 ?k0 ?a1 ?l1 ?c1 ?k1 ?a2 ?l2 ?c2 ?k2 ?a3 ?l3 ?c3 ?k3 ?a4 ?l4 ?c4 ?k4 ?a5 ?l5 ?c5 ?k5 ?a6 ?l6 ?c6 ?k6 ?a7 ?l7 ?c7 ?k7 ?a8 ?l8 ?c8 ?k8 ?a9 ?l9 ?c9 ?k9 ?a10 ?l10 ?c10 ?k10 ?a11 ?l11 ?c11 ?k11 ?a12 ?l12 ?c12 ?k12 ?a13 ?l13 ?c13 ?k13 ?z0 ?z1 ?z2 ?z3 ?z4 ?z5 ?z6 ?z7 ?z8 ?z9 ?z10 ?z11 ?z12
    (case a0 => k_is)
    (case l0 => k_is)
    (case c0 => k_is)
    (case k0 => k_is)
    (case a1 => k_is)
    (case l1 => k_is)
    (case c1 => k_is)
    (case k1 => k_is)
    (case a2 => k_is)
    (case l2 => k_is)
    (case c2 => k_is)
    (case k2 => k_is)
    (case a3 => k_is)
    (case l3 => k_is)
    (case c3 => k_is)
    (case k3 => k_is)
    (case a4 => k_is)
    (case l4 => k_is)
    (case c4 => k_is)
    (case k4 => k_is)
    (case a5 => k_is)
    (case l5 => k_is)
    (case c5 => k_is)
    (case k5 => k_is)
    (case a6 => k_is)
    (case l6 => k_is)
    (case c6 => k_is)
    (case k6 => k_is)
    (case a7 => k_is)
    (case l7 => k_is)
    (case c7 => k_is)
    (case k7 => k_is)
    (case a8 => k_is)
    (case l8 => k_is)
    (case c8 => k_is)
    (case k8 => k_is)
    (case a9 => k_is)
    (case l9 => k_is)
    (case c9 => k_is)
    (case k9 => k_is)
    (case a10 => k_is)
    (case l10 => k_is)
    (case c10 => k_is)
    (case k10 => k_is)
    (case a11 => k_is)
    (case l11 => k_is)
    (case c11 => k_is)
    (case k11 => k_is)
    (case a12 => k_is)
    (case l12 => k_is)
    (case c12 => k_is)
    (case k12 => k_is)
    (case a13 => k_is)
    (case l13 => k_is)
    (case c13 => k_is)
    (case k13 => k_is)
    (case z0 => k_is)
    (case z1 => k_is)
    (case z2 => k_is)
    (case z3 => k_is)
    (case z4 => k_is)
    (case z5 => k_is)
    (case z6 => k_is)
    (case z7 => k_is)
    (case z8 => k_is)
    (case z9 => k_is)
    (case z10 => k_is)
    (case z11 => k_is)
    (case z12 => k_is)
