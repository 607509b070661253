import PyProof.Rows.All
import Wide.All
import OpenK.AllK
import Wide.FinOn
import Lean
import PyProof.EqAt
import PyProof.EqKinds
import PyProof.TupleCall
import KE.KIntText
import PyProof.EnumFor
import PyProof.EnumMake
import PyProof.ZipIter
import PyProof.LayNew
import KE.KTurns
import PyProof.Rows.Range3
import KE.KRevSl
import KE.KDictList
import PyProof.Draws
import PyProof.Rows.RuleM_int
import PyProof.Rows.BitMore
import PyProof.NeKinds
import KE.KRevIter
import PyProof.JoinWalk
import KE.KTryMore
import PyProof.ExcArgs
import OpenK.KOwn
import PyProof.ExcBaseAll.ValueError
import KE.KLam
import KE.KNestM
import PySem.Challenge.RW_loomwright_k27_whole_woven_at_once
set_option Elab.async false
set_option linter.all false
set_option maxRecDepth 100000
set_option maxHeartbeats 4000000
set_option genSizeOf false
set_option compiler.extract_closed false
namespace L2
open PySem PySem.Spec PyProof.Rows
noncomputable abbrev Key := Sum Int Str
noncomputable def keyIs : Key → Value → Bool
  | .inl k, v => Value.isInt k v
  | .inr x, v => Value.isStrOf x v
noncomputable def keyH (w : World) : Key → Int
  | .inl k => hashInt k
  | .inr x => hashStr w x
theorem keyIs_shape : ∀ {k : Key} {v : Value}, keyIs k v = true → (∃ i t, k = Sum.inl i ∧ v = Value.int i t) ∨ (∃ x t, k = Sum.inr x ∧ v = Value.str x t)
  | .inl i, v, h => by
    obtain ⟨t, e⟩ := Value.isInt_shape (k := i) (v := v) h
    exact .inl ⟨i, t, rfl, e⟩
  | .inr x, v, h => by
    obtain ⟨t, e⟩ := Value.isStrOf_shape (x := x) (v := v) h
    exact .inr ⟨x, t, rfl, e⟩
theorem key_ll (a b : Int) : decide ((Sum.inl a : Key) = Sum.inl b) = (a == b) := by
  by_cases e : a = b
  · subst e; simp
  · have h : ¬ (Sum.inl a : Key) = Sum.inl b := fun q => e (Sum.inl.inj q)
    rw [decide_eq_false h]
    exact (beq_eq_false_iff_ne.mpr e).symm
theorem key_rr (a b : Str) : decide ((Sum.inr a : Key) = Sum.inr b) = decide (a = b) := by
  by_cases e : a = b
  · subst e; simp
  · have h : ¬ (Sum.inr a : Key) = Sum.inr b := fun q => e (Sum.inr.inj q)
    rw [decide_eq_false h, decide_eq_false e]
theorem key_lr (a : Int) (b : Str) : decide ((Sum.inl a : Key) = Sum.inr b) = false := decide_eq_false (fun q => nomatch q)
theorem key_rl (a : Str) (b : Int) : decide ((Sum.inr a : Key) = Sum.inl b) = false := decide_eq_false (fun q => nomatch q)
noncomputable def mixKind (prog : Program) (w : World) : PySem.KeyKind prog w Key where
  is := keyIs
  hash := keyH w
  inj := fun v a b ha hb => by
    rcases keyIs_shape ha with ⟨i, t, rfl, rfl⟩ | ⟨x, t, rfl, rfl⟩
    · rcases keyIs_shape hb with ⟨j, u, rfl, e⟩ | ⟨y, u, rfl, e⟩
      · injection e with e1 _; rw [e1]
      · exact nomatch e
    · rcases keyIs_shape hb with ⟨j, u, rfl, e⟩ | ⟨y, u, rfl, e⟩
      · exact nomatch e
      · injection e with e1 _; rw [e1]
  byValue := fun k v h => by
    rcases keyIs_shape h with ⟨i, t, rfl, rfl⟩ | ⟨x, t, rfl, rfl⟩ <;> rfl
  pyHash := fun hv h => by
    rcases keyIs_shape hv with ⟨i, t, rfl, rfl⟩ | ⟨x, t, rfl, rfl⟩
    · exact wpAny_pyHash_int h
    · exact wpAny_pyHash_str h
  eqBool := fun hu hv h => by
    rcases keyIs_shape hu with ⟨i, t, rfl, rfl⟩ | ⟨x, t, rfl, rfl⟩
    · rcases keyIs_shape hv with ⟨j, u, rfl, rfl⟩ | ⟨y, u, rfl, rfl⟩
      · rw [key_ll] at h; exact wpAny_eqBool_int h
      · rw [key_lr] at h; exact SeqAt.EqAt.int_str i t y u _ _ _ _ h
    · rcases keyIs_shape hv with ⟨j, u, rfl, rfl⟩ | ⟨y, u, rfl, rfl⟩
      · rw [key_rl] at h; exact SeqAt.EqAt.str_int x t j u _ _ _ _ h
      · rw [key_rr] at h; exact wpAny_eqBool_str h
  «strs» := fun k x t v h => by
    rcases keyIs_shape h with ⟨i, u, rfl, e⟩ | ⟨y, u, rfl, e⟩
    · exact nomatch e
    · injection e with e1 _
      subst e1
      cases v <;> rfl
end L2
namespace L2
open PySem PySem.Spec PyProof.Rows
inductive V where
  | non | bl (b : Bool) | int (i : Int) | str (x : Str) | byt (b : Array UInt8) | flt (b : UInt64) | ref (a : Addr) | ty (n : String)
  deriving DecidableEq
noncomputable def RelV : V → Value → Prop
  | .non, u => u = Value.none
  | .bl b, u => u = Value.bool b
  | .int i, u => ∃ t, u = Value.int i t
  | .str x, u => ∃ t, u = Value.str x t
  | .byt b, u => ∃ t, u = Value.bytes b t
  | .flt b, u => ∃ t, u = Value.float b t
  | .ref a, u => u = Value.ref a
  | .ty n, u => u = Value.type n
noncomputable abbrev Vals : List V → List Value → Prop := Paired RelV
theorem Vals.length {xs : List V} {us : List Value} (r : Vals xs us) : xs.length = us.length := Paired.length r
theorem Vals.get : ∀ {xs : List V} {us : List Value} {i : Nat} {x : V}, Vals xs us → xs[i]? = some x → ∃ u, us[i]? = some u ∧ RelV x u
  | _, _, _, _, .nil, e => by simp at e
  | _, _, 0, _, .cons r _, e => by simp at e; subst e; exact ⟨_, rfl, r⟩
  | _, _, i + 1, x, .cons _ t, e => by
    obtain ⟨u, h1, h2⟩ := Vals.get (i := i) (x := x) t (by simpa using e)
    exact ⟨u, by simpa using h1, h2⟩
theorem Vals.append : ∀ {xs ys : List V} {us ws : List Value}, Vals xs us → Vals ys ws → Vals (xs ++ ys) (us ++ ws)
  | _, _, _, _, .nil, s => s
  | _, _, _, _, .cons r t, s => .cons r (Vals.append t s)
theorem Vals.take : ∀ {xs : List V} {us : List Value} (n : Nat), Vals xs us → Vals (xs.take n) (us.take n)
  | _, _, 0, _ => .nil
  | _, _, _ + 1, .nil => .nil
  | _, _, n + 1, .cons r t => .cons r (Vals.take n t)
theorem Vals.drop : ∀ {xs : List V} {us : List Value} (n : Nat), Vals xs us → Vals (xs.drop n) (us.drop n)
  | _, _, 0, r => r
  | _, _, _ + 1, .nil => .nil
  | _, _, n + 1, .cons _ t => Vals.drop n t
noncomputable def RelO : Option V → Option Value → Prop
  | some v, some u => RelV v u
  | none, none => True
  | _, _ => False
noncomputable def KV {κ : Type} : List (κ × V) → List (κ × Value) → Prop := Paired fun (p : κ × V) (q : κ × Value) => p.1 = q.1 ∧ RelV p.2 q.2
noncomputable def kV : Key → V
  | .inl i => .int i
  | .inr x => .str x
inductive HO where
  | lst (xs : List V)
  | tup (xs : List V)
  | dK (kvs : List (Key × V)) | dT (kvs : List (List Key × V))
  | set (S : Int → Bool) (n : Nat)
  | ins (C dx : Addr) (fs : List (Str × V))
  | own (x : Addr)
  | xd (fs : List (Str × V))
  | met (f x : Addr)
  | rng (lo hi : Int)
  | frz (o : Obj) (u : HO)
  | tbl (ps : Array Value)
  | ext (φ : Heap → Prop)
noncomputable abbrev Hp := Addr → Option HO
noncomputable def upd (H : Hp) (a : Addr) (o : HO) : Hp := fun b => if b = a then some o else H b
theorem upd_same {H : Hp} {a : Addr} {o : HO} : upd H a o a = some o := by unfold upd; rw [if_pos rfl]
theorem upd_ne {H : Hp} {a b : Addr} {o : HO} (h : b ≠ a) : upd H a o b = H b := by unfold upd; rw [if_neg h]
theorem ne_of {H : Hp} {a b : Addr} {o u : HO} (h : H a = some o) (h' : H b = some u) (d : o ≠ u) : a ≠ b := by
  intro e; subst e; rw [h] at h'; exact d (Option.some.inj h')
theorem ne_of_none {H : Hp} {a b : Addr} {o : HO} (h : H a = some o) (h' : H b = none) : a ≠ b := by
  intro e; subst e; rw [h] at h'; cases h'
section
variable (P : Program) (w : World)
noncomputable def ObjOk (H : Hp) (h : Heap) (a : Addr) : HO → Prop
  | .lst xs => xs.length ≤ sizeLine ∧ ∃ (its : List Value) (n : Nat), Vals xs its ∧ h.get? a = some { cls := .type "list", data := .seq its.toArray n }
  | .tup xs => xs.length ≤ sizeLine ∧ ∃ its : List Value, Vals xs its ∧ IsTup h a its.toArray
  | .dK kvs => kvs.length ≤ sizeLine ∧ (a == sysModules) = false ∧ ∃ vs, KV kvs vs ∧ h.DictOf (mixKind P w) a vs
  | .dT kvs => kvs.length ≤ sizeLine ∧ (a == sysModules) = false ∧ ∃ xs : List (List Key × Addr × Value),
      Paired (fun (p : List Key × V) (q : List Key × Addr × Value) => p.1 = q.1 ∧ H q.2.1 = some (.tup (p.1.map kV)) ∧ RelV p.2 q.2.2) kvs xs ∧
      ∃ o es ep, h.get? a = some o ∧ o.ExactDict ∧ o.data = .dict es ep ∧ es.toList = xs.map (entryOfKey (tupleKind (mixKind P w))) ∧ (xs.map (·.1)).Nodup
  | .set S n => h.SetOf (intKind P w) a S n
  | .ins C dx fs => H dx = some (.own a) ∧ fs.length ≤ 1000 ∧ dx ≠ a ∧ h.get? a = some (PySem.W.instObj C dx) ∧
      ∃ mA, h.Ns1 dx mA ∧ (∀ f, RelO (fs.lookup f) (mA f)) ∧ PySem.Within mA (fs.map (·.1))
  | .own _ => ∃ o, h.get? a = some o
  | .xd fs => ∃ mA, h.Ns1 a mA ∧ ∀ f, RelO (fs.lookup f) (mA f)
  | .rng lo hi => ∃ t u v, h.get? a = some { cls := .type "range", data := .fields #[.int lo t, .int hi u, .int 1 v] }
  | .frz o u => h.get? a = some o ∧ ObjOk H h a u
  | .tbl ps => h.get? a = some { cls := .none, data := .fields ps }
  | .met f x => h.get? a = some (PySem.W.methodObj (.ref f) (.ref x))
  | .ext φ => φ h ∧ (∃ o, h.get? a = some o) ∧ ∀ h1 h2 : Heap, φ h1 → (∀ o, h1.get? a = some o → h2.get? a = some o) → φ h2
noncomputable def HOk (H : Hp) (h : Heap) : Prop := ∀ a o, H a = some o → ObjOk P w H h a o
end
section
variable {P : Program} {w : World} {H H' : Hp} {h h' : Heap} {a : Addr} {o : HO}
theorem ObjOk.lt (x : ObjOk P w H h a o) : a < h.objs.size := by
  cases o with
  | lst xs => obtain ⟨_, _, _, _, e⟩ := x; exact Heap.lt_size e
  | tup xs => obtain ⟨_, _, _, p⟩ := x; exact p.lt
  | dK kvs => obtain ⟨_, _, _, _, o, _, _, e, _⟩ := x; exact Heap.lt_size e
  | dT kvs => obtain ⟨_, _, _, _, o, _, _, e, _⟩ := x; exact Heap.lt_size e
  | set S n => obtain ⟨o, _, _, _, e, _⟩ := x; exact Heap.lt_size e
  | ins C dx fs => obtain ⟨_, _, _, e, _⟩ := x; exact Heap.lt_size e
  | own y => obtain ⟨_, e⟩ := x; exact Heap.lt_size e
  | xd fs => obtain ⟨_, ⟨_, _, _, e, _⟩, _⟩ := x; exact Heap.lt_size e
  | rng lo hi => obtain ⟨_, _, _, e⟩ := x; exact Heap.lt_size e
  | frz ob u => obtain ⟨e, _⟩ := x; exact Heap.lt_size e
  | tbl ps => exact Heap.lt_size (show h.get? a = some _ from x)
  | met f y => exact Heap.lt_size (show h.get? a = some _ from x)
  | ext φ => obtain ⟨_, ⟨_, e⟩, _⟩ := x; exact Heap.lt_size e
theorem Paired.mapP {α β : Type} {F G : α → β → Prop} : ∀ {l₁ : List α} {l₂ : List β}, Paired F l₁ l₂ → (∀ a b, F a b → G a b) → Paired G l₁ l₂
  | _, _, .nil, _ => .nil
  | _, _, .cons r t, f => .cons (f _ _ r) (Paired.mapP t f)
theorem ObjOk.stay (x : ObjOk P w H h a o) (k : ∀ b u, (b = a ∨ H b = some (.own a)) → h.get? b = some u → h'.get? b = some u)
    (ho : ∀ b, H b = some (.own a) → H' b = some (.own a)) (ht : ∀ b xs, H b = some (.tup xs) → H' b = some (.tup xs)) : ObjOk P w H' h' a o := by
  induction o with
  | lst xs => obtain ⟨z, its, n, r, e⟩ := x; exact ⟨z, its, n, r, k _ _ (.inl rfl) e⟩
  | tup xs => obtain ⟨z, its, r, ob, e, c⟩ := x; exact ⟨z, its, r, ob, k _ _ (.inl rfl) e, c⟩
  | dK kvs => obtain ⟨z, y, vs, r, ob, es, ep, e, c⟩ := x; exact ⟨z, y, vs, r, ob, es, ep, k _ _ (.inl rfl) e, c⟩
  | dT kvs =>
    obtain ⟨z, y, xs, r, ob, es, ep, e, c⟩ := x
    exact ⟨z, y, xs, Paired.mapP r fun p q z => ⟨z.1, ht _ _ z.2.1, z.2.2⟩, ob, es, ep, k _ _ (.inl rfl) e, c⟩
  | set S n => obtain ⟨ob, es, ep, t, e, c⟩ := x; exact ⟨ob, es, ep, t, k _ _ (.inl rfl) e, c⟩
  | ins C dx fs =>
    obtain ⟨d, z, ne, e, mA, ⟨od, es, ep, e2, c⟩, r⟩ := x
    exact ⟨ho _ d, z, ne, k _ _ (.inl rfl) e, mA, ⟨od, es, ep, k _ _ (.inr d) e2, c⟩, r⟩
  | own y => obtain ⟨ob, e⟩ := x; exact ⟨ob, k _ _ (.inl rfl) e⟩
  | xd fs => obtain ⟨mA, ⟨od, es, ep, e, c⟩, r⟩ := x; exact ⟨mA, ⟨od, es, ep, k _ _ (.inl rfl) e, c⟩, r⟩
  | rng lo hi => obtain ⟨t, u, v, e⟩ := x; exact ⟨t, u, v, k _ _ (.inl rfl) e⟩
  | frz ob u ih => obtain ⟨e, q⟩ := x; exact ⟨k _ _ (.inl rfl) e, ih q⟩
  | tbl ps =>
    have e : h.get? a = some { cls := .none, data := .fields ps } := x
    show h'.get? a = some { cls := .none, data := .fields ps }
    exact k a _ (.inl rfl) e
  | met f y =>
    have e : h.get? a = some (PySem.W.methodObj (.ref f) (.ref y)) := x
    show h'.get? a = some (PySem.W.methodObj (.ref f) (.ref y))
    exact k a _ (.inl rfl) e
  | ext φ => obtain ⟨p, ⟨o, e⟩, st⟩ := x; exact ⟨st _ _ p fun o q => k _ _ (.inl rfl) q, ⟨o, k _ _ (.inl rfl) e⟩, st⟩
theorem HOk.lt (x : HOk P w H h) (e : H a = some o) : a < h.objs.size := (x a o e).lt
theorem HOk.fresh (x : HOk P w H h) (e : h.objs.size ≤ a) : H a = none := by
  cases q : H a with
  | none => rfl
  | some u => exact absurd (Nat.lt_of_lt_of_le (x.lt q) e) (Nat.lt_irrefl _)
theorem HOk.kept (x : HOk P w H h) (k : ∀ b u, h.get? b = some u → h'.get? b = some u) : HOk P w H h' := fun a o e =>
  (x a o e).stay (fun b u _ q => k b u q) (fun _ q => q) fun _ _ q => q
theorem HOk.laid (x : HOk P w H h) (k : ∀ b u, h.get? b = some u → h'.get? b = some u) (hp : h.objs.size ≤ a) (new : ObjOk P w (upd H a o) h' a o) : HOk P w (upd H a o) h' := fun b u e => by
  have hn := x.fresh hp
  by_cases hb : b = a
  · subst hb; rw [upd_same] at e; cases e; exact new
  · rw [upd_ne hb] at e
    exact (x b u e).stay (fun c v _ q => k c v q) (fun c q => by rw [upd_ne (ne_of_none q hn)]; exact q) fun c xs q => by rw [upd_ne (ne_of_none q hn)]; exact q
end
noncomputable def Rd (H : Hp) (a : Addr) (u : HO) : Prop := H a = some u ∨ ∃ o, H a = some (.frz o u)
theorem Rd.ok {P : Program} {w : World} {H : Hp} {h : Heap} {a : Addr} {u : HO} (r : Rd H a u) (x : HOk P w H h) : ObjOk P w H h a u := by
  rcases r with r | ⟨o, r⟩
  · exact x a u r
  · obtain ⟨_, q⟩ := x a _ r
    exact q
noncomputable def Mut : Option HO → Prop
  | some (.lst _) => True
  | some (.dK _) => True
  | some (.dT _) => True
  | some (.set _ _) => True
  | some (.ins _ _ _) => True
  | some (.ext _) => True
  | _ => False
section
variable {P : Program} {w : World} {H : Hp} {h h' : Heap} {x e : Addr} {o' : HO}
theorem HOk.write (ok : HOk P w H h) (mu : Mut (H x)) (he : e = x ∨ H e = some (.own x)) (k : ∀ b u, b ≠ e → h.get? b = some u → h'.get? b = some u) (heo : ∃ u, h'.get? e = some u)
    (new : ObjOk P w (upd H x o') h' x o') : HOk P w (upd H x o') h' := fun b u q => by
  have nown : ∀ c y, H c = some (.own y) → c ≠ x := fun c y r z => by subst z; rw [r] at mu; exact mu
  have ntup : ∀ c xs, H c = some (.tup xs) → c ≠ x := fun c xs r z => by subst z; rw [r] at mu; exact mu
  by_cases hb : b = x
  · subst hb; rw [upd_same] at q; cases q; exact new
  · rw [upd_ne hb] at q
    by_cases hbe : b = e
    · have q' : H b = some (.own x) := by
        rcases he with z | z
        · exact absurd (hbe.trans z) hb
        · rw [hbe]; exact z
      rw [q] at q'; cases q'
      obtain ⟨v, hv⟩ := heo
      exact ⟨v, by rw [hbe]; exact hv⟩
    · refine (ok b u q).stay (fun c v hc r => k c v ?_ r) (fun c r => by rw [upd_ne (nown c b r)]; exact r) fun c xs r => by rw [upd_ne (ntup c xs r)]; exact r
      rcases hc with rfl | hc
      · exact hbe
      · rintro rfl
        rcases he with z | z
        · exact nown c b hc z
        · rw [hc] at z; cases z; exact hb rfl
end
set_option genInjectivity false in
structure Un (fs ex : List Addr) (H H' : Hp) (h h' : Heap) : Prop where
  keep : ∀ b o, h.get? b = some o → H b = none → b ∉ fs → b ∉ ex → h'.get? b = some o
  slot : ∀ b o, h.get? b = some o → H b = none → b ∈ fs → b ∉ ex → ∃ sl, h'.get? b = some { o with slots := sl }
  free : ∀ b o, h.get? b = some o → H b = none → b ∉ ex → H' b = none
  there : ∀ b o, h.get? b = some o → b ∉ ex → ∃ o', h'.get? b = some o'
  tups : ∀ b xs, H b = some (.tup xs) → H' b = some (.tup xs)
  frzs : ∀ b o u, H b = some (.frz o u) → H' b = some (.frz o u)
  tbls : ∀ b ps, H b = some (.tbl ps) → ∃ more, H' b = some (.tbl (ps ++ more))
section
variable {fs fs' ex ex' : List Addr} {H H1 H2 : Hp} {h h1 h2 h' : Heap} {a x e : Addr} {o : HO}
theorem Un.any (u : Un fs ex H H1 h h1) {b : Addr} {ob : Obj} (q : h.get? b = some ob) (n : H b = none) (hx : b ∉ ex) : ∃ sl, h1.get? b = some { ob with slots := sl } := by
  by_cases hb : b ∈ fs
  · exact u.slot b ob q n hb hx
  · exact ⟨ob.slots, u.keep b ob q n hb hx⟩
theorem Un.kept (k : ∀ b u, h.get? b = some u → h'.get? b = some u) : Un fs ex H H h h' :=
  ⟨fun b ob q _ _ _ => k b ob q, fun b ob q _ _ _ => ⟨ob.slots, k b ob q⟩, fun _ _ _ n _ => n, fun b ob q _ => ⟨ob, k b ob q⟩, fun _ _ q => q, fun _ _ _ q => q, fun _ ps q => ⟨#[], by rw [q]; simp⟩⟩
theorem Un.refl : Un fs ex H H h h := Un.kept fun _ _ q => q
theorem Un.laid (k : ∀ b u, h.get? b = some u → h'.get? b = some u) (hp : h.objs.size ≤ a) (hn : H a = none) : Un fs ex H (upd H a o) h h' where
  keep := fun b u q _ _ _ => k b u q
  slot := fun b u q _ _ _ => ⟨u.slots, k b u q⟩
  free := fun b u q n _ => by rw [upd_ne (Nat.ne_of_lt (Nat.lt_of_lt_of_le (Heap.lt_size q) hp))]; exact n
  there := fun b u q _ => ⟨u, k b u q⟩
  tups := fun b xs q => by rw [upd_ne (ne_of_none q hn)]; exact q
  frzs := fun b u xs q => by rw [upd_ne (ne_of_none q hn)]; exact q
  tbls := fun b ps q => ⟨#[], by rw [upd_ne (ne_of_none q hn), q]; simp⟩
theorem Un.write (mu : Mut (H x)) (he : e = x ∨ H e = some (.own x)) (k : ∀ b u, b ≠ e → h.get? b = some u → h'.get? b = some u) (heo : ∃ u, h'.get? e = some u) : Un fs ex H (upd H x o) h h' := by
  have hx : ∀ b, H b = none → b ≠ x := fun b n z => by subst z; rw [n] at mu; exact mu
  have hb : ∀ b, H b = none → b ≠ e := fun b n z => by
    subst z
    rcases he with r | r
    · exact hx b n r
    · rw [n] at r; cases r
  have hm : ∀ b u, H b = some u → ¬ Mut (some u) → b ≠ x := fun b u q nm z => by subst z; rw [q] at mu; exact nm mu
  refine ⟨fun b u q n _ _ => k b u (hb b n) q, fun b u q n _ _ => ⟨u.slots, k b u (hb b n) q⟩, fun b u q n _ => by rw [upd_ne (hx b n)]; exact n, fun b u q _ => ?_,
    fun b xs q => by rw [upd_ne (hm b _ q fun z => z)]; exact q, fun b u xs q => by rw [upd_ne (hm b _ q fun z => z)]; exact q, fun b ps q => ⟨#[], by rw [upd_ne (hm b _ q fun z => z), q]; simp⟩⟩
  by_cases hbe : b = e
  · subst hbe; exact heo
  · exact ⟨u, k b u hbe q⟩
end
noncomputable def trk (h : Heap) (H : Hp) : List Addr := (List.range h.objs.size).filter fun a => (H a).isSome
noncomputable def hidT (h : Heap) (H : Hp) : Heap := PySem.W.hideAll h (trk h H)
theorem hidT_size (h : Heap) (H : Hp) : (hidT h H).objs.size = h.objs.size := PySem.W.hideAll_size _ _
theorem hidT_get {h : Heap} {H : Hp} {b : Addr} {o : Obj} (e : h.get? b = some o) (n : H b = none) : (hidT h H).get? b = some o :=
  PySem.W.hideAll_get _ e fun hm => by
    have q : (H b).isSome = true := (List.mem_filter.mp hm).2
    rw [n] at q; simp at q
theorem of_hidT {h : Heap} {H : Hp} {b : Addr} {o : Obj} (e : (hidT h H).get? b = some o) : h.get? b = some o ∧ H b = none := by
  have e' : h.get? b = some o := PySem.W.of_hideAll (trk h H) e
  refine ⟨e', ?_⟩
  cases q : H b with
  | none => rfl
  | some x =>
    have hm : b ∈ trk h H := List.mem_filter.mpr ⟨List.mem_range.mpr (Heap.lt_size e'), by simp [q]⟩
    have z : (hidT h H).get? b = none := PySem.W.hideAll_none (trk h H) hm
    rw [z] at e; cases e
end L2
namespace L2
open PySem PySem.Spec PyProof.Rows
set_option genInjectivity false in
structure Mod (K : PySem.W.Frag) (mg : Str → Option Value) (base : Heap) : Prop where
  kin : K.In base
  glob : base.Ns mainGlobals mg
  blt : ∃ mb, base.Ns builtinsNs mb ∧ ∀ x : Str, x ≠ "__name__" → mb x = bootBuiltins x
  nolimit : base.NoLimit
set_option genInjectivity false in
structure Cx where
  prog : Program
  w : World
  K : PySem.W.Frag
  mg : Str → Option Value
  base : Heap
  A : Around
  N : List Str
  s₀ : Shared
  H₀ : Hp
  env : Env
  outer : List Env
  stack : List Env
  ex : List Addr
  fn : Str → Bool
  calm : Bool
  pn : List (Addr × Obj)
  xe : Value → Shared → Prop
noncomputable def frs (l : List Env) : List Addr := l.filterMap (·.frame)
noncomputable abbrev Cx.fs (X : Cx) : List Addr := frs X.outer
noncomputable def Vis (sc : Scope) (x : Str) : Prop := sc.names.lookup x = some .local ∨ sc.names.lookup x = some .cell ∨ sc.names.lookup x = some .free
noncomputable def Loc (sc : Scope) (x : Str) : Prop := sc.names.lookup x = some .local ∨ sc.names.lookup x = some .cell
noncomputable def Look (env : Env) (h : Heap) (m : Str → Option Value) (x : Str) (u : Value) : Prop :=
  (env.kindOf x = some .local ∧ m x = some u) ∨ ((env.kindOf x = some .cell ∨ env.kindOf x = some .free) ∧ ∃ c, env.cells.lookup x = some c ∧ h.IsCell c (some u))
set_option genInjectivity false in
structure Cx.Ok (X : Cx) : Prop where
  mod : Mod X.K X.mg X.base
  kind : X.env.scope.kind = .function
  glob : X.env.globals = mainGlobals
  blt : X.env.builtins = builtinsNs
  above : X.s₀.heap.objs.size ≤ X.env.locals
  inj : ∀ x y c, X.env.cells.lookup x = some c → X.env.cells.lookup y = some c → x = y
  has : ∀ x, (X.env.kindOf x = some .cell ∨ X.env.kindOf x = some .free) → ∃ c, X.env.cells.lookup x = some c
  cab : ∀ x c, X.fn x = true → X.env.cells.lookup x = some c → X.s₀.heap.objs.size ≤ c
  hd : X.calm = true → X.A.handled = none
  frames : X.A.frames = some X.stack
  stk : X.stack = X.outer ∨ (X.stack = X.env :: X.outer ∧ X.env.frame = some X.env.locals)
  exf : ∀ b ∈ X.ex, b ≠ X.env.locals ∧ ∀ x c, X.env.cells.lookup x = some c → c ≠ b
  bs : ∀ b o, X.base.get? b = some o → X.s₀.heap.get? b = some o ∧ X.H₀ b = none
  bsz : X.base.objs.size ≤ X.s₀.heap.objs.size
  noex : ∀ b o, X.base.get? b = some o → b ∉ X.ex
  exfs : ∀ b ∈ X.ex, b ∉ X.fs
  funs : X.s₀.heap.FunFrames X.base X.outer
  frf : ∀ b ∈ X.fs, X.H₀ b = none
set_option genInjectivity false in
structure Inv (X : Cx) (pins : List (Addr × Obj)) (σ : List (Option V)) (H : Hp) (s : Shared) : Prop where
  ok : X.Ok
  os : s.os = X.s₀.os
  bare : AllBare s.gens
  base : Un X.fs X.ex X.H₀ H X.s₀.heap s.heap
  loc : ∃ m, s.heap.Ns X.env.locals m ∧ ∀ (i : Nat) (x : Str) (v : V), X.N[i]? = some x → σ[i]? = some (some v) → Vis X.env.scope x → ∃ u, RelV v u ∧ Look X.env s.heap m x u
  cell : ∀ x c, X.env.cells.lookup x = some c → ∃ v, s.heap.IsCell c v
  free : H X.env.locals = none
  freeC : ∀ x c, X.env.cells.lookup x = some c → H c = none
  pin : ∀ p ∈ X.pn ++ pins, s.heap.get? p.1 = some p.2 ∧ H p.1 = none ∧ p.1 ≠ X.env.locals ∧ p.1 ∉ X.fs ∧ ∀ v, p.2.data ≠ .cell v
  hok : HOk X.prog X.w H s.heap
  len : σ.length = X.N.length
section
variable {X : Cx} {pins : List (Addr × Obj)} {σ : List (Option V)} {H H' : Hp} {s : Shared} {h' : Heap}
theorem Cx.Ok.nofr (ok : X.Ok) {b : Addr} {o : Obj} (e : X.base.get? b = some o) : b ∉ X.fs := fun hb => by
  have := (ok.funs.mem hb).1
  rw [e] at this; cases this
theorem Inv.bs (I : Inv X pins σ H s) : ∀ b o, X.base.get? b = some o → s.heap.get? b = some o ∧ H b = none := fun b o e =>
  ⟨I.base.keep b o (I.ok.bs b o e).1 (I.ok.bs b o e).2 (I.ok.nofr e) (I.ok.noex b o e), I.base.free b o (I.ok.bs b o e).1 (I.ok.bs b o e).2 (I.ok.noex b o e)⟩
theorem Inv.bk (I : Inv X pins σ H s) : ∀ b o, X.base.get? b = some o → s.heap.get? b = some o := fun b o e => (I.bs b o e).1
theorem Inv.mod (I : Inv X pins σ H s) : Mod X.K X.mg X.base := I.ok.mod
theorem Inv.kIn (I : Inv X pins σ H s) : X.K.In s.heap := I.ok.mod.kin.keeps I.bk
theorem Inv.lt (I : Inv X pins σ H s) : X.env.locals < s.heap.objs.size := let ⟨_, hn, _⟩ := I.loc; hn.lt
theorem Inv.sz (I : Inv X pins σ H s) : X.s₀.heap.objs.size ≤ s.heap.objs.size := Nat.le_trans I.ok.above (Nat.le_of_lt I.lt)
theorem Inv.nofs (I : Inv X pins σ H s) {a : Addr} (h : s.heap.objs.size ≤ a) : a ∉ X.fs := fun hb => by
  obtain ⟨_, o, ho, _⟩ := I.ok.funs.mem hb
  exact absurd (Nat.lt_of_lt_of_le (Heap.lt_size ho) (Nat.le_trans I.sz h)) (Nat.lt_irrefl _)
theorem Inv.cne (I : Inv X pins σ H s) : ∀ x c, X.env.cells.lookup x = some c → c ≠ X.env.locals := fun x c e z => by
  obtain ⟨v, o, ho, hd⟩ := I.cell x c e
  obtain ⟨m, ⟨o', es, ep, ho', hd', _⟩, _⟩ := I.loc
  rw [z, ho'] at ho; cases ho; rw [hd'] at hd; cases hd
theorem Inv.funs (I : Inv X pins σ H s) : s.heap.FunFrames X.base X.outer := by
  have all : ∀ (l : List Env), (∀ b ∈ frs l, b ∈ X.fs) → X.s₀.heap.FunFrames X.base l → s.heap.FunFrames X.base l := by
    intro l
    induction l with
    | nil => intro _ _; trivial
    | cons env r ih =>
      intro hs hl
      obtain ⟨hk, ⟨L, o, hf, hn, ho, hd⟩, hr⟩ := hl
      have hL : L ∈ X.fs := hs L (by unfold frs; rw [List.filterMap_cons, hf]; exact List.mem_cons_self)
      obtain ⟨sl, e⟩ := I.base.slot L o ho (I.ok.frf L hL) hL fun z => I.ok.exfs L z hL
      exact ⟨hk, ⟨L, _, hf, hn, e, hd⟩, ih (fun b hb => hs b (by unfold frs; rw [List.filterMap_cons, hf]; exact List.mem_cons_of_mem _ hb)) hr⟩
  exact all X.outer (fun _ hb => hb) I.ok.funs
theorem Inv.stack (I : Inv X pins σ H s) : s.heap.FunFrames X.base X.stack := by
  rcases I.ok.stk with e | ⟨e, hf⟩
  · rw [e]; exact I.funs
  · rw [e]
    obtain ⟨m, hn, _⟩ := I.loc
    refine .cons (by rw [I.ok.kind]; decide) hf hn ?_ I.funs
    exact Heap.get?_none_of_le (Nat.le_trans I.ok.bsz I.ok.above)
theorem Inv.stkSub (I : Inv X pins σ H s) : ∀ b ∈ frs X.stack, b ∈ X.env.locals :: X.fs := fun b hb => by
  rcases I.ok.stk with e | ⟨e, hf⟩
  · rw [e] at hb; exact List.mem_cons_of_mem _ hb
  · rw [e] at hb
    unfold frs at hb
    rw [List.filterMap_cons, hf] at hb
    exact hb
theorem Inv.stkFree (I : Inv X pins σ H s) : ∀ b ∈ frs X.stack, H b = none := fun b hb => by
  rcases List.mem_cons.mp (I.stkSub b hb) with e | hb
  · rw [e]; exact I.free
  · obtain ⟨_, o, ho, _⟩ := I.ok.funs.mem hb
    exact I.base.free b o ho (I.ok.frf b hb) fun z => I.ok.exfs b z hb
theorem Inv.step {g' : Array GenState} {t' : Nat} {d' : Drawn} {ch : List Addr} (I : Inv X pins σ H s)
    (hch : ∀ b ∈ ch, (b ∈ X.ex ∨ X.s₀.heap.objs.size ≤ b) ∧ b ≠ X.env.locals ∧ (∀ x c, X.env.cells.lookup x = some c → c ≠ b) ∧ ∀ p ∈ X.pn ++ pins, p.1 ≠ b)
    (keep : ∀ b o, b ≠ X.env.locals → b ∉ X.fs → b ∉ ch → s.heap.get? b = some o → H b = none → h'.get? b = some o)
    (slot : ∀ b o, b ≠ X.env.locals → b ∈ X.fs → b ∉ ch → s.heap.get? b = some o → H b = none → ∃ sl, h'.get? b = some { o with slots := sl }) (free : ∀ b o, b ∉ ch → s.heap.get? b = some o → H b = none → H' b = none)
    (there : ∀ b o, b ∉ ch → s.heap.get? b = some o → ∃ o', h'.get? b = some o')
    (tups : ∀ b xs, H b = some (.tup xs) → H' b = some (.tup xs)) (frzs : ∀ b o u, H b = some (.frz o u) → H' b = some (.frz o u)) (tbls : ∀ b ps, H b = some (.tbl ps) → ∃ more, H' b = some (.tbl (ps ++ more)))
    (ns : ∀ m, s.heap.Ns X.env.locals m → h'.Ns X.env.locals m) (hok : HOk X.prog X.w H' h') (hg : AllBare g') :
    Inv X pins σ H' { s with heap := h', gens := g', drawn := d', toks := t' } := by
  have neL : ∀ b o, X.s₀.heap.get? b = some o → b ≠ X.env.locals := fun b o e => Nat.ne_of_lt (Nat.lt_of_lt_of_le (Heap.lt_size e) I.ok.above)
  have neC : ∀ b o, X.s₀.heap.get? b = some o → b ∉ X.ex → b ∉ ch := fun b o e hx hb => by
    rcases (hch b hb).1 with z | z
    · exact hx z
    · exact absurd (Nat.lt_of_lt_of_le (Heap.lt_size e) z) (Nat.lt_irrefl _)
  have cellK : ∀ x c, X.env.cells.lookup x = some c → ∀ v, s.heap.IsCell c v → h'.IsCell c v := fun x c e v ⟨o, ho, hd⟩ => by
    have nch : c ∉ ch := fun z => (hch c z).2.2.1 x c e rfl
    by_cases hc : c ∈ X.fs
    · obtain ⟨sl, q⟩ := slot c o (I.cne x c e) hc nch ho (I.freeC x c e)
      exact ⟨_, q, hd⟩
    · exact ⟨o, keep c o (I.cne x c e) hc nch ho (I.freeC x c e), hd⟩
  refine ⟨I.ok, I.os, hg, ⟨fun b o e n hb hx => ?_, fun b o e n hb hx => ?_, fun b o e n hx => ?_, fun b o e hx => ?_, fun b xs e => tups b xs (I.base.tups b xs e), fun b o xs e => frzs b o xs (I.base.frzs b o xs e), fun b ps e => ?_⟩, ?_, fun x c e => ?_, ?_, fun x c e => ?_, fun p hp => ?_, hok, I.len⟩
  · exact keep b o (neL b o e) hb (neC b o e hx) (I.base.keep b o e n hb hx) (I.base.free b o e n hx)
  · obtain ⟨sl, e1⟩ := I.base.slot b o e n hb hx
    obtain ⟨sl', e2⟩ := slot b _ (neL b o e) hb (neC b o e hx) e1 (I.base.free b o e n hx)
    exact ⟨sl', e2⟩
  · obtain ⟨o', e1⟩ := I.base.there b o e hx
    exact free b o' (neC b o e hx) e1 (I.base.free b o e n hx)
  · obtain ⟨o', e1⟩ := I.base.there b o e hx
    exact there b o' (neC b o e hx) e1
  · obtain ⟨m1, e1⟩ := I.base.tbls b ps e
    obtain ⟨m2, e2⟩ := tbls b _ e1
    exact ⟨m1 ++ m2, by rw [e2, Array.append_assoc]⟩
  · obtain ⟨m, hn, hl⟩ := I.loc
    refine ⟨m, ns m hn, fun i x v e1 e2 e3 => ?_⟩
    obtain ⟨u, r, l⟩ := hl i x v e1 e2 e3
    refine ⟨u, r, ?_⟩
    rcases l with l | ⟨k, c, e, z⟩
    · exact .inl l
    · exact .inr ⟨k, c, e, cellK x c e _ z⟩
  · obtain ⟨v, z⟩ := I.cell x c e
    exact ⟨v, cellK x c e v z⟩
  · obtain ⟨m, ⟨o, _, _, ho, _⟩, _⟩ := I.loc
    exact free _ o (fun z => (hch _ z).2.1 rfl) ho I.free
  · obtain ⟨v, o, ho, hd⟩ := I.cell x c e
    exact free c o (fun z => (hch c z).2.2.1 x c e rfl) ho (I.freeC x c e)
  · obtain ⟨e, n, ne, nf, d⟩ := I.pin p hp
    have nch : p.1 ∉ ch := fun z => (hch p.1 z).2.2.2 p hp rfl
    exact ⟨keep p.1 p.2 ne nf nch e n, free p.1 p.2 nch e n, ne, nf, d⟩
theorem Inv.un {t' : Nat} (I : Inv X pins σ H s) (u : Un X.fs [] H H' s.heap h') (hok : HOk X.prog X.w H' h') : Inv X pins σ H' { s with heap := h', toks := t' } := by
  obtain ⟨m, ⟨o, es, ep, ho, r⟩, _⟩ := id I.loc
  obtain ⟨sl, hL⟩ := u.any ho I.free (by simp)
  exact I.step (g' := s.gens) (d' := s.drawn) (ch := []) (fun _ z => nomatch z) (fun b o _ hb _ e n => u.keep b o e n hb (by simp)) (fun b o _ hb _ e n => u.slot b o e n hb (by simp)) (fun b o _ e n => u.free b o e n (by simp)) (fun b o _ e => u.there b o e (by simp)) u.tups u.frzs u.tbls (fun m' hm => by
    obtain ⟨o', es', ep', ho', r'⟩ := hm
    rw [ho] at ho'; cases ho'
    exact ⟨_, es', ep', hL, r'⟩) hok I.bare
theorem Inv.call {g' : Array GenState} {t' : Nat} {d' : Drawn} {ch : List Addr} (I : Inv X pins σ H s) (u : Un (frs X.stack) ch H H' s.heap h') (hok : HOk X.prog X.w H' h') (hg : AllBare g')
    (hch : ∀ b ∈ ch, (b ∈ X.ex ∨ X.s₀.heap.objs.size ≤ b) ∧ b ≠ X.env.locals ∧ (∀ x c, X.env.cells.lookup x = some c → c ≠ b) ∧ ∀ p ∈ X.pn ++ pins, p.1 ≠ b) :
    Inv X pins σ H' { s with heap := h', gens := g', drawn := d', toks := t' } := by
  obtain ⟨m, ⟨o, es, ep, ho, r⟩, _⟩ := id I.loc
  obtain ⟨sl, hL⟩ := u.any ho I.free fun z => (hch _ z).2.1 rfl
  exact I.step (ch := ch) hch (fun b o hL hb hc e n => u.keep b o e n (fun z => (List.mem_cons.mp (I.stkSub b z)).elim hL hb) hc) (fun b o _ _ hc e n => u.any e n hc) (fun b o hc e n => u.free b o e n hc) (fun b o hc e => u.there b o e hc) u.tups u.frzs u.tbls (fun m' hm => by
    obtain ⟨o', es', ep', ho', r'⟩ := hm
    rw [ho] at ho'; cases ho'
    exact ⟨_, es', ep', hL, r'⟩) hok hg
theorem Inv.turned {t' : Nat} {it : Addr} (I : Inv X pins σ H s) (k : ∀ b o, b ≠ it → s.heap.get? b = some o → h'.get? b = some o) (hn : H it = none) (hL : it ≠ X.env.locals)
    (h1 : it ∈ X.ex ∨ X.s₀.heap.objs.size ≤ it) (h2 : ∀ x c, X.env.cells.lookup x = some c → c ≠ it) (h3 : ∀ p ∈ X.pn ++ pins, p.1 ≠ it) : Inv X pins σ H { s with heap := h', toks := t' } := by
  have nit : ∀ b u, H b = some u → b ≠ it := fun b u e z => by rw [z, hn] at e; cases e
  refine I.step (g' := s.gens) (d' := s.drawn) (ch := [it]) (fun b hb => ?_) (fun b o _ _ hc e _ => k b o (fun z => hc (by simp [z])) e) (fun b o _ _ hc e _ => ⟨o.slots, k b o (fun z => hc (by simp [z])) e⟩) (fun _ _ _ _ n => n)
    (fun b o hc e => ⟨o, k b o (fun z => hc (by simp [z])) e⟩) (fun _ _ e => e) (fun _ _ _ e => e) (fun b ps e => ⟨#[], by rw [e]; simp⟩) (fun m hm => ?_) (fun b u e => ?_) I.bare
  · have e : b = it := by simpa using hb
    subst e
    exact ⟨h1, hL, h2, h3⟩
  · obtain ⟨o, es, ep, ho, r⟩ := hm
    exact ⟨o, es, ep, k _ o (Ne.symm hL) ho, r⟩
  · refine (I.hok b u e).stay (fun c v hc q => k c v ?_ q) (fun _ q => q) fun _ _ q => q
    rcases hc with z | z
    · rw [z]; exact nit b u e
    · exact nit c _ z
theorem Inv.tok (I : Inv X pins σ H s) (t : Nat) : Inv X pins σ H { s with toks := t } := I.un (h' := s.heap) (t' := t) Un.refl I.hok
theorem Inv.kept {t' : Nat} (I : Inv X pins σ H s) (k : ∀ b u, s.heap.get? b = some u → h'.get? b = some u) : Inv X pins σ H { s with heap := h', toks := t' } := I.un (Un.kept k) (I.hok.kept k)
theorem Inv.laid {a : Addr} {o : HO} {t' : Nat} (I : Inv X pins σ H s) (k : ∀ b u, s.heap.get? b = some u → h'.get? b = some u) (hp : s.heap.objs.size ≤ a) (new : ObjOk X.prog X.w (upd H a o) h' a o) :
    Inv X pins σ (upd H a o) { s with heap := h', toks := t' } := I.un (Un.laid k hp (I.hok.fresh hp)) (I.hok.laid k hp new)
theorem Inv.write {x e : Addr} {o : HO} {t' : Nat} (I : Inv X pins σ H s) (mu : Mut (H x)) (he : e = x ∨ H e = some (.own x)) (k : ∀ b u, b ≠ e → s.heap.get? b = some u → h'.get? b = some u) (heo : ∃ u, h'.get? e = some u)
    (new : ObjOk X.prog X.w (upd H x o) h' x o) : Inv X pins σ (upd H x o) { s with heap := h', toks := t' } := I.un (Un.write mu he k heo) (I.hok.write mu he k heo new)
theorem Inv.weak {σ' : List (Option V)} (I : Inv X pins σ H s) (hl : σ'.length = σ.length) (w : ∀ (i : Nat) v, σ'[i]? = some (some v) → σ[i]? = some (some v)) : Inv X pins σ' H s :=
  ⟨I.ok, I.os, I.bare, I.base, let ⟨m, hn, hl'⟩ := I.loc; ⟨m, hn, fun i x v e1 e2 e3 => hl' i x v e1 (w i v e2) e3⟩, I.cell, I.free, I.freeC, I.pin, I.hok, hl.trans I.len⟩
theorem Inv.pins_of {pins' : List (Addr × Obj)} (I : Inv X pins σ H s) (h : ∀ p ∈ pins', s.heap.get? p.1 = some p.2 ∧ H p.1 = none ∧ p.1 ≠ X.env.locals ∧ p.1 ∉ X.fs ∧ ∀ v, p.2.data ≠ .cell v) : Inv X pins' σ H s :=
  ⟨I.ok, I.os, I.bare, I.base, I.loc, I.cell, I.free, I.freeC, fun p hp => (List.mem_append.mp hp).elim (fun z => I.pin p (List.mem_append_left _ z)) (h p), I.hok, I.len⟩
theorem nodup_ix {N : List Str} (hN : N.Nodup) {i j : Nat} {x : Str} (a : N[i]? = some x) (b : N[j]? = some x) : i = j := by
  obtain ⟨h1, e1⟩ := List.getElem?_eq_some_iff.mp a
  obtain ⟨h2, e2⟩ := List.getElem?_eq_some_iff.mp b
  exact (List.getElem_inj hN).mp (e1.trans e2.symm)
theorem store_ok2 {M : Model} {A : Around} {E : Value → Shared → Prop} {i : Nat} {x : Str} {v : V} {u : Value} {Q : Unit → Shared → Prop} (I : Inv X pins σ H s) (hN : X.N.Nodup) (hi : X.N[i]? = some x) (hx : Loc X.env.scope x) (r : RelV v u)
    (h : ∀ s', Inv X pins (σ.set i (some v)) H s' → (∃ a, Heap.SameBut a s.heap s'.heap ∧ (a = X.env.locals ∨ X.env.cells.lookup x = some a)) → Q () s') (hf : X.fn x = true ∨ X.env.scope.names.lookup x = some .local := by first | exact .inl rfl | exact .inr rfl | assumption) : wpAny M A (storeName X.env x u) Q E s := by
  obtain ⟨m, hn, hl⟩ := id I.loc
  have hcls : (X.env.scope.kind == .class || (X.env.scope.kind == .module && X.env.locals != X.env.globals)) = false := by rw [I.ok.kind]; rfl
  have hiσ : i < σ.length := by rw [I.len]; exact (List.getElem?_eq_some_iff.mp hi).1
  have cne := I.cne
  have tracked : ∀ {a : Addr} {h' : Heap}, (∃ o, s.heap.get? a = some o ∧ H a = none) → Heap.SameBut a s.heap h' → HOk X.prog X.w H h' := fun {a h'} ha hs b ob e => by
    obtain ⟨_, _, hfree⟩ := ha
    refine (I.hok b ob e).stay (fun c w' hc q => (hs.2 c ?_).trans q) (fun _ q => q) fun _ _ q => q
    rintro rfl
    rcases hc with rfl | hc
    · rw [hfree] at e; cases e
    · rw [hfree] at hc; cases hc
  rcases hx with hk | hk
  · refine wpAny_storeName_local hk hn (fun h' hn' hs => ?_) hcls
    obtain ⟨oL, _, _, hoL, _⟩ := id hn
    refine h _ ⟨I.ok, I.os, I.bare, ⟨fun b o e n hb hx => ?_, fun b o e n hb hx => ?_, I.base.free, fun b o e hx => ?_, I.base.tups, I.base.frzs, I.base.tbls⟩, ⟨_, hn', fun j y v' e1 e2 e3 => ?_⟩, fun y c e => ?_, I.free, I.freeC, fun p hp => ?_, tracked ⟨oL, hoL, I.free⟩ hs, by simpa using I.len⟩ ⟨_, hs, .inl rfl⟩
    · exact (hs.2 b (Nat.ne_of_lt (Nat.lt_of_lt_of_le (Heap.lt_size e) I.ok.above))).trans (I.base.keep b o e n hb hx)
    · obtain ⟨sl, e1⟩ := I.base.slot b o e n hb hx
      exact ⟨sl, (hs.2 b (Nat.ne_of_lt (Nat.lt_of_lt_of_le (Heap.lt_size e) I.ok.above))).trans e1⟩
    · obtain ⟨o', e1⟩ := I.base.there b o e hx
      exact ⟨o', (hs.2 b (Nat.ne_of_lt (Nat.lt_of_lt_of_le (Heap.lt_size e) I.ok.above))).trans e1⟩
    · by_cases hj : j = i
      · subst hj
        rw [hi] at e1; cases e1
        rw [List.getElem?_set_self hiσ] at e2
        cases e2
        exact ⟨u, r, .inl ⟨hk, by simp⟩⟩
      · rw [List.getElem?_set_ne (Ne.symm hj)] at e2
        obtain ⟨u', r', q⟩ := hl j y v' e1 e2 e3
        refine ⟨u', r', ?_⟩
        rcases q with ⟨k, e⟩ | ⟨k, c, e, z⟩
        · refine .inl ⟨k, ?_⟩
          have : y ≠ x := fun e => hj (nodup_ix hN e1 (e ▸ hi))
          simp [this, e]
        · exact .inr ⟨k, c, e, z.sameBut hs (cne y c e)⟩
    · obtain ⟨w', z⟩ := I.cell y c e
      exact ⟨w', z.sameBut hs (cne y c e)⟩
    · obtain ⟨e, n, ne, nf, d⟩ := I.pin p hp
      exact ⟨(hs.2 p.1 ne).trans e, n, ne, nf, d⟩
  · have hfn : X.fn x = true := by
      rcases hf with z | z
      · exact z
      · rw [z] at hk; cases hk
    obtain ⟨c, hc⟩ := I.ok.has x (.inl hk)
    obtain ⟨w', z⟩ := I.cell x c hc
    refine wpAny_storeName_cell I.ok.kind hk hc z (fun h' hc' hs => ?_)
    obtain ⟨oc, hoc, hocd⟩ := id z
    refine h { s with heap := h' } ⟨I.ok, I.os, I.bare, ⟨fun b o e n hb hx => ?_, fun b o e n hb hx => ?_, I.base.free, fun b o e hx => ?_, I.base.tups, I.base.frzs, I.base.tbls⟩, ⟨m, hn.sameBut hs (Ne.symm (cne x c hc)), fun j y v' e1 e2 e3 => ?_⟩, fun y c' e => ?_, I.free, I.freeC, fun p hp => ?_, tracked ⟨oc, hoc, I.freeC x c hc⟩ hs, by simpa using I.len⟩ ⟨c, hs, .inr hc⟩
    · exact (hs.2 b (Nat.ne_of_lt (Nat.lt_of_lt_of_le (Heap.lt_size e) (I.ok.cab x c hfn hc)))).trans (I.base.keep b o e n hb hx)
    · obtain ⟨sl, e1⟩ := I.base.slot b o e n hb hx
      exact ⟨sl, (hs.2 b (Nat.ne_of_lt (Nat.lt_of_lt_of_le (Heap.lt_size e) (I.ok.cab x c hfn hc)))).trans e1⟩
    · obtain ⟨o', e1⟩ := I.base.there b o e hx
      exact ⟨o', (hs.2 b (Nat.ne_of_lt (Nat.lt_of_lt_of_le (Heap.lt_size e) (I.ok.cab x c hfn hc)))).trans e1⟩
    · by_cases hj : j = i
      · subst hj
        rw [hi] at e1; cases e1
        rw [List.getElem?_set_self hiσ] at e2
        cases e2
        exact ⟨u, r, .inr ⟨.inl hk, c, hc, hc'⟩⟩
      · rw [List.getElem?_set_ne (Ne.symm hj)] at e2
        obtain ⟨u', r', q⟩ := hl j y v' e1 e2 e3
        refine ⟨u', r', ?_⟩
        rcases q with q | ⟨k, c', e, z'⟩
        · exact .inl q
        · refine .inr ⟨k, c', e, z'.sameBut hs ?_⟩
          rintro rfl
          exact hj (nodup_ix hN e1 (I.ok.inj _ _ _ e hc ▸ hi))
    · by_cases hcc : c' = c
      · subst hcc; exact ⟨_, hc'⟩
      · obtain ⟨w2, z2⟩ := I.cell y c' e
        exact ⟨w2, z2.sameBut hs hcc⟩
    · obtain ⟨e, n, ne, nf, d⟩ := I.pin p hp
      refine ⟨(hs.2 p.1 ?_).trans e, n, ne, nf, d⟩
      intro q
      rw [q, hoc] at e
      have q' : oc = p.2 := Option.some.inj e
      exact d w' (by rw [← q']; exact hocd)
theorem store_ok {M : Model} {A : Around} {E : Value → Shared → Prop} {i : Nat} {x : Str} {v : V} {u : Value} {Q : Unit → Shared → Prop} (I : Inv X pins σ H s) (hN : X.N.Nodup) (hi : X.N[i]? = some x) (hx : Loc X.env.scope x) (r : RelV v u)
    (h : ∀ s', Inv X pins (σ.set i (some v)) H s' → Q () s') (hf : X.fn x = true ∨ X.env.scope.names.lookup x = some .local := by first | exact .inl rfl | exact .inr rfl | assumption) : wpAny M A (storeName X.env x u) Q E s :=
  store_ok2 I hN hi hx r (fun s' I' _ => h s' I') hf
theorem Inv.call' {s' : Shared} {ch : List Addr} (I : Inv X pins σ H s) (ho : s'.os = s.os) (u : Un (frs X.stack) ch H H' s.heap s'.heap) (hok : HOk X.prog X.w H' s'.heap) (hg : AllBare s'.gens)
    (hch : ∀ b ∈ ch, (b ∈ X.ex ∨ X.s₀.heap.objs.size ≤ b) ∧ b ≠ X.env.locals ∧ (∀ x c, X.env.cells.lookup x = some c → c ≠ b) ∧ ∀ p ∈ X.pn ++ pins, p.1 ≠ b) : Inv X pins σ H' s' := by
  obtain ⟨h', g', d', t', o'⟩ := s'
  have e : o' = s.os := ho
  subst e
  exact I.call (g' := g') (t' := t') (d' := d') u hok hg hch
end
noncomputable abbrev XK := Value → Option Addr → Hp → Prop
noncomputable abbrev St := List (Option V)
noncomputable abbrev VK := V → Hp → Prop
noncomputable abbrev TE := St → Hp → VK → Prop
noncomputable abbrev TT := St → Hp → (Bool → Hp → Prop) → Prop
noncomputable abbrev TA := St → Hp → (List V → Hp → Prop) → Prop
set_option genInjectivity false in
structure Ends where
  nx : St → Hp → Prop
  rt : VK
  bk : St → Hp → Prop := fun _ _ => False
  ct : St → Hp → Prop := fun _ _ => False
noncomputable abbrev TS := Ends → St → Hp → Prop
noncomputable def EP (X : Cx) (pins : List (Addr × Obj)) (σ : St) (Q : VK) (u : Value) (s' : Shared) : Prop := ∃ v H', Inv X pins σ H' s' ∧ RelV v u ∧ Q v H'
noncomputable def TP (X : Cx) (pins : List (Addr × Obj)) (σ : St) (Q : Bool → Hp → Prop) (b : Bool) (s' : Shared) : Prop := ∃ H', Inv X pins σ H' s' ∧ Q b H'
noncomputable def AP (X : Cx) (pins : List (Addr × Obj)) (σ : St) (Q : List V → Hp → Prop) (us : List Value) (s' : Shared) : Prop := ∃ vs H', Inv X pins σ H' s' ∧ Vals vs us ∧ Q vs H'
noncomputable def SP (X : Cx) (pins : List (Addr × Obj)) (D : Ends) (f : Flow) (s' : Shared) : Prop :=
  match f with
  | .next => ∃ σ' H', Inv X pins σ' H' s' ∧ D.nx σ' H'
  | .brk => ∃ σ' H', Inv X pins σ' H' s' ∧ D.bk σ' H'
  | .cont => ∃ σ' H', Inv X pins σ' H' s' ∧ D.ct σ' H'
  | .ret u => ∃ v σ' H', Inv X pins σ' H' s' ∧ RelV v u ∧ D.rt v H'
noncomputable def PE (X : Cx) (e : Expr) (t : TE) : Prop :=
  ∀ (pins : List (Addr × Obj)) (s : Shared) (σ : St) (H : Hp) (Q : VK), Inv X pins σ H s → t σ H Q → wpAny (model X.prog X.w) X.A (eval e X.env) (EP X pins σ Q) X.xe s
noncomputable def PT (X : Cx) (e : Expr) (t : TT) : Prop :=
  ∀ (pins : List (Addr × Obj)) (s : Shared) (σ : St) (H : Hp) (Q : Bool → Hp → Prop), Inv X pins σ H s → t σ H Q → wpAny (model X.prog X.w) X.A (isTrue e X.env (eval e X.env)) (TP X pins σ Q) X.xe s
noncomputable def PW (X : Cx) (e : Expr) (t : TT) : Prop :=
  ∀ (whole : Sem Value) (pins : List (Addr × Obj)) (s : Shared) (σ : St) (H : Hp) (Q : Bool → Hp → Prop), Inv X pins σ H s → t σ H Q → wpAny (model X.prog X.w) X.A (isTrue e X.env whole) (TP X pins σ Q) X.xe s
theorem PW.pt {X : Cx} {e : Expr} {t : TT} (h : PW X e t) : PT X e t := h _
noncomputable def PA (X : Cx) (es : List Expr) (t : TA) : Prop :=
  ∀ (pos : Pos) (pins : List (Addr × Obj)) (s : Shared) (σ : St) (H : Hp) (Q : List V → Hp → Prop), Inv X pins σ H s → t σ H Q → wpAny (model X.prog X.w) X.A (spliced (backTo pos (starEach es X.env))) (AP X pins σ Q) X.xe s
noncomputable def PS (X : Cx) (st : Stmt) (t : TS) : Prop :=
  ∀ (pins : List (Addr × Obj)) (s : Shared) (σ : St) (H : Hp) (D : Ends), Inv X pins σ H s → t D σ H → wpAny (model X.prog X.w) X.A (exec st X.env) (SP X pins D) X.xe s
noncomputable def PSs (X : Cx) (st : List Stmt) (t : TS) : Prop :=
  ∀ (pins : List (Addr × Obj)) (s : Shared) (σ : St) (H : Hp) (D : Ends), Inv X pins σ H s → t D σ H → wpAny (model X.prog X.w) X.A (execs st X.env) (SP X pins D) X.xe s
theorem thn {α : Type} {t : Sem α} {Q Q' : α → Shared → Prop} {M : Model} {A : Around} {E : Value → Shared → Prop} {s : Shared} (h : wpAny M A t Q E s) (hQ : ∀ a s, Q a s → Q' a s) : wpAny M A t Q' E s := wpAny_mono h hQ fun _ _ x => x
end L2
namespace L2
open PySem PySem.Spec PyProof.Rows
section
variable {X : Cx}
noncomputable def tVar (i : Nat) : TE := fun σ H Q => ∃ v, σ[i]? = some (some v) ∧ Q v H
noncomputable def tC (v : V) : TE := fun _ H Q => Q v H
theorem pe_var {i : Nat} {x : Str} {pos : Pos} (hN : X.N[i]? = some x) (hv : Vis X.env.scope x) (hd : (x == ("__debug__" : Str)) = false := by decide) (hcd : (x == ("__classdict__" : Str)) = false := by decide) : PE X (.Name x pos) (tVar i) := by
  intro pins s σ H Q I h
  obtain ⟨v, e, h⟩ := h
  obtain ⟨m, hn, hl⟩ := I.loc
  obtain ⟨u, r, l⟩ := hl i x v hN e hv
  have fin : EP X pins σ Q u s := ⟨v, H, I, r, h⟩
  rcases l with ⟨hk, hm⟩ | ⟨hk, c, hc, hcell⟩
  · exact wpAny_Name (wpAny_loadName_local I.ok.kind hk hn hm fin) hd
  · rcases hk with hk | hk
    · exact wpAny_Name (wpAny_loadName_cell I.ok.kind hk hc hcell fin) hd
    · exact wpAny_Name (wpAny_loadName_free I.ok.kind hk hc hcell fin hcd) hd
theorem pe_int {i j pos} : PE X (.Constant (.int i) j pos) (tC (.int i)) := fun _ _ _ H _ I h => wpAny_Constant_int ⟨.int i, H, I.tok _, ⟨_, rfl⟩, h⟩
theorem pe_bl {b j pos} : PE X (.Constant (.bool b) j pos) (tC (.bl b)) := fun _ _ _ H _ I h => Constant_bool ⟨.bl b, H, I, rfl, h⟩
theorem pe_non {j pos} : PE X (.Constant .none j pos) (tC .non) := fun _ _ _ H _ I h => Constant_none ⟨.non, H, I, rfl, h⟩
theorem pe_str {x j pos} : PE X (.Constant (.str x) j pos) (tC (.str x)) := fun _ _ _ H _ I h => Calls.Constant_str ⟨.str x, H, I.tok _, ⟨_, rfl⟩, h⟩
noncomputable def Gl (X : Cx) (x : Str) : Prop := X.env.kindOf x = some .globalImplicit
theorem ld_glob {E : Value → Shared → Prop} {pins : List (Addr × Obj)} {s : Shared} {σ : St} {H : Hp} {x : Str} {u : Value} {pos : Pos} {Q : Value → Shared → Prop} (I : Inv X pins σ H s) (hg : Gl X x) (hm : X.mg x = some u) (h : Q u s)
    (hd : (x == ("__debug__" : Str)) = false := by decide) : wpAny (model X.prog X.w) X.A (eval (.Name x pos) X.env) Q E s :=
  Calls.Name_function_global I.ok.kind hg (Calls.loadGlobal_global (by rw [I.ok.glob]; exact I.mod.glob.keeps I.bk) hm h) hd
theorem ld_blt {E : Value → Shared → Prop} {pins : List (Addr × Obj)} {s : Shared} {σ : St} {H : Hp} {x : Str} {u : Value} {pos : Pos} {Q : Value → Shared → Prop} (I : Inv X pins σ H s) (hg : Gl X x) (hm : X.mg x = none) (hv : bootBuiltins x = some u) (h : Q u s)
    (hn : x ≠ "__name__" := by decide) (hd : (x == ("__debug__" : Str)) = false := by decide) : wpAny (model X.prog X.w) X.A (eval (.Name x pos) X.env) Q E s := by
  obtain ⟨mb, h1, h2⟩ := I.mod.blt
  exact Calls.Name_function_global I.ok.kind hg (Calls.loadGlobal_builtin (by rw [I.ok.glob]; exact I.mod.glob.keeps I.bk) hm (by rw [I.ok.blt]; exact h1.keeps I.bk) ((h2 x hn).trans hv) h) hd
theorem pe_glob {x : Str} {v : V} {u : Value} {pos : Pos} (hg : Gl X x) (hm : X.mg x = some u) (r : RelV v u) (hd : (x == ("__debug__" : Str)) = false := by decide) : PE X (.Name x pos) (tC v) :=
  fun _ _ _ H _ I h => ld_glob I hg hm ⟨v, H, I, r, h⟩ hd
theorem pe_bltn {x : Str} {v : V} {u : Value} {pos : Pos} (hg : Gl X x) (hm : X.mg x = none) (hv : bootBuiltins x = some u) (r : RelV v u) (hn : x ≠ "__name__" := by decide) (hd : (x == ("__debug__" : Str)) = false := by decide) : PE X (.Name x pos) (tC v) :=
  fun _ _ _ H _ I h => ld_blt I hg hm hv ⟨v, H, I, r, h⟩ hn hd
variable {a b : Expr} {ta tb : TE} {pos : Pos}
theorem nobehind (b : Expr) {op : CmpOp} (h : op ≠ .In) (h2 : op ≠ .NotIn) : behindInMarks op b = false := by
  have e1 : (op == CmpOp.In) = false := by cases op <;> first | rfl | exact absurd rfl h
  have e2 : (op == CmpOp.NotIn) = false := by cases op <;> first | rfl | exact absurd rfl h2
  cases b <;> simp [behindInMarks, e1, e2]
noncomputable def tB (t : TE) : TT := fun σ H Q => t σ H fun x H1 => ∃ c, x = .bl c ∧ Q c H1
theorem pt_val {e : Expr} {t : TE} (h : PE X e t) (he : ∀ whole, isTrue e X.env whole = (do let v ← whole; standAt e.pos; holding [v] (truthy v)) := by intro _; rfl) : PT X e (tB t) := by
  intro pins s σ H Q I hw
  refine isTrue_plain (thn (h pins s σ H _ I hw) fun v s1 ⟨x, H1, I1, r1, q1⟩ => ?_) (he _)
  obtain ⟨d, rfl, q⟩ := q1
  cases r1
  exact wpAny_truthy_bool ⟨H1, I1, q⟩
variable {tA tB' : TT} {rest : List Expr}
noncomputable def tAnd (t u : TT) : TT := fun σ H Q => t σ H fun c H1 => if c = true then u σ H1 Q else Q false H1
noncomputable def tOr (t u : TT) : TT := fun σ H Q => t σ H fun c H1 => if c = true then Q true H1 else u σ H1 Q
noncomputable def tNot (t : TT) : TT := fun σ H Q => t σ H fun c H1 => Q (!c) H1
theorem pw_and1 (ha : PT X a tA) : PW X (.BoolOp .And [a] pos) tA := by
  intro wh pins s σ H Q I h
  refine isTrue_and (thn (ha pins s σ H Q I h) fun c s1 e => ?_)
  cases c with
  | true => exact isTrue_and_nil e
  | false => exact e
theorem pw_or1 (ha : PT X a tA) : PW X (.BoolOp .Or [a] pos) tA := by
  intro wh pins s σ H Q I h
  refine isTrue_or (thn (ha pins s σ H Q I h) fun c s1 e => ?_)
  cases c with
  | false => exact isTrue_or_nil e
  | true => exact e
theorem pw_and (ha : PT X a tA) (hb : PW X (.BoolOp .And (b :: rest) pos) tB') : PW X (.BoolOp .And (a :: b :: rest) pos) (tAnd tA tB') := by
  intro wh pins s σ H Q I h
  refine isTrue_and (thn (ha pins s σ H _ I h) fun c s1 ⟨H1, I1, q1⟩ => ?_)
  cases c with
  | true => exact hb wh pins s1 σ H1 Q I1 q1
  | false => exact ⟨H1, I1, q1⟩
theorem pw_or (ha : PT X a tA) (hb : PW X (.BoolOp .Or (b :: rest) pos) tB') : PW X (.BoolOp .Or (a :: b :: rest) pos) (tOr tA tB') := by
  intro wh pins s σ H Q I h
  refine isTrue_or (thn (ha pins s σ H _ I h) fun c s1 ⟨H1, I1, q1⟩ => ?_)
  cases c with
  | true => exact ⟨H1, I1, q1⟩
  | false => exact hb wh pins s1 σ H1 Q I1 q1
theorem pt_not (ha : PT X a tA) : PT X (.UnaryOp .Not a pos) (tNot tA) := by
  intro pins s σ H Q I h
  exact isTrue_not (ha pins s σ H (fun c H1 => Q (!c) H1) I h)
noncomputable def tAndV (ta tb : TE) : TE := fun σ H Q => ta σ H fun x H1 => ∃ c, x = .bl c ∧ if c = true then tb σ H1 Q else Q (.bl false) H1
noncomputable def tNotV (ta : TE) : TE := fun σ H Q => ta σ H fun x H1 => ∃ c, x = .bl c ∧ Q (.bl (!c)) H1
theorem pe_one {op} {t : TE} (h : PE X a t) : PE X (.BoolOp op [a] pos) t := fun pins s σ H Q I hw => BoolOp_one (h pins s σ H Q I hw)
theorem pe_and (ha : PE X a ta) (hb : PE X (.BoolOp .And (b :: rest) pos) tb) : PE X (.BoolOp .And (a :: b :: rest) pos) (tAndV ta tb) := by
  intro pins s σ H Q I h
  refine BoolOp_and (thn (ha pins s σ H _ I h) fun v s1 zPt => ?_)
  obtain ⟨x, H1, I1, r1, q1⟩ := zPt
  obtain ⟨c, rfl, q1⟩ := q1
  cases r1
  refine wpAny_truthy_bool ?_
  cases c with
  | true => exact hb pins s1 σ H1 Q I1 q1
  | false => exact ⟨.bl false, H1, I1, rfl, q1⟩
theorem pe_not (ha : PE X a ta) : PE X (.UnaryOp .Not a pos) (tNotV ta) := by
  intro pins s σ H Q I h
  refine UnaryOp_ (thn (ha pins s σ H _ I h) fun v s1 zPt => ?_)
  obtain ⟨x, H1, I1, r1, q1⟩ := zPt
  obtain ⟨c, rfl, q1⟩ := q1
  cases r1
  exact not_of (wpAny_truthy_bool ⟨.bl (!c), H1, I1, rfl, q1⟩)
noncomputable def tIf (t : TT) (ta tb : TE) : TE := fun σ H Q => t σ H fun c H1 => if c = true then ta σ H1 Q else tb σ H1 Q
theorem pe_ifExp {c : Expr} (hc : PT X c tA) (ha : PE X a ta) (hb : PE X b tb) : PE X (.IfExp c a b pos) (tIf tA ta tb) := by
  intro pins s σ H Q I h
  refine wpAny_IfExp (thn (hc pins s σ H _ I h) fun d s1 ⟨H1, I1, q1⟩ => ?_)
  cases d with
  | true => exact ha pins s1 σ H1 Q I1 q1
  | false => exact hb pins s1 σ H1 Q I1 q1
end
end L2
namespace L2
open PySem PySem.Spec PyProof.Rows
noncomputable def SqL (K : PySem.W.Frag) (H : Hp) (a : Addr) (xs : List V) : Prop :=
  Rd H a (.lst xs) ∨
    ∃ (o : Obj) (its : Array Value) (n : Nat), K.lookup a = some o ∧ o.cls = .type "list" ∧ o.dict = none ∧ o.data = .seq its n ∧ its.size ≤ sizeLine ∧ Vals xs its.toList
noncomputable def SqT (K : PySem.W.Frag) (H : Hp) (a : Addr) (xs : List V) : Prop :=
  Rd H a (.tup xs) ∨
    ∃ (o : Obj) (its : Array Value) (n : Nat), K.lookup a = some o ∧ o.cls = .type "tuple" ∧ o.data = .seq its n ∧ its.size ≤ sizeLine ∧ Vals xs its.toList
noncomputable def absV : Value → Option V
  | .none => some .non
  | .bool b => some (.bl b)
  | .int i _ => some (.int i)
  | .str x _ => some (.str x)
  | .bytes b _ => some (.byt b)
  | .float b _ => some (.flt b)
  | .ref a => some (.ref a)
  | .type n => some (.ty n)
  | _ => none
theorem RelV.abs {x : V} {u : Value} (r : RelV x u) : absV u = some x := by
  cases x with
  | non => cases r; rfl
  | bl _ => cases r; rfl
  | int _ => obtain ⟨t, rfl⟩ := r; rfl
  | str _ => obtain ⟨t, rfl⟩ := r; rfl
  | byt _ => obtain ⟨t, rfl⟩ := r; rfl
  | flt _ => obtain ⟨t, rfl⟩ := r; rfl
  | ref _ => cases r; rfl
  | ty _ => cases r; rfl
theorem RelV.inj {x y : V} {u : Value} (r : RelV x u) (q : RelV y u) : x = y := Option.some.inj (r.abs.symm.trans q.abs)
theorem Vals.inj : ∀ {xs ys : List V} {us : List Value}, Vals xs us → Vals ys us → xs = ys
  | _, _, _, .nil, .nil => rfl
  | _, _, _, .cons r t, .cons r' t' => by rw [r.inj r', Vals.inj t t']
section
variable {X : Cx} {pins : List (Addr × Obj)} {σ : St} {H : Hp} {s : Shared} {a : Addr} {xs ys : List V}
theorem SqL.of {K : PySem.W.Frag} (h : H a = some (.lst xs)) : SqL K H a xs := .inl (.inl h)
theorem SqT.of {K : PySem.W.Frag} (h : H a = some (.tup xs)) : SqT K H a xs := .inl (.inl h)
theorem Inv.list (I : Inv X pins σ H s) (h : SqL X.K H a xs) : ∃ its : List Value, Vals xs its ∧ PlainL s.heap a its.toArray ∧ xs.length ≤ sizeLine := by
  rcases h with h | ⟨o, its, n, hk, hc, hd, hs, hz, r⟩
  · obtain ⟨z, its, n, r, e⟩ := h.ok I.hok
    exact ⟨its, r, ⟨_, n, e, rfl, rfl, rfl⟩, z⟩
  · refine ⟨its.toList, r, ⟨o, n, I.kIn a o hk, hc, hd, by simpa using hs⟩, ?_⟩
    have e := r.length
    simp only [Array.length_toList] at e
    first | assumption | decide | omega
theorem Inv.tuple (I : Inv X pins σ H s) (h : SqT X.K H a xs) : ∃ its : List Value, Vals xs its ∧ IsTup s.heap a its.toArray ∧ xs.length ≤ sizeLine := by
  rcases h with h | ⟨o, its, n, hk, hc, hs, hz, r⟩
  · obtain ⟨z, its, r, p⟩ := h.ok I.hok
    exact ⟨its, r, p, z⟩
  · refine ⟨its.toList, r, ⟨o, I.kIn a o hk, hc, n, by simpa using hs⟩, ?_⟩
    have e := r.length
    simp only [Array.length_toList] at e
    first | assumption | decide | omega
theorem Inv.list_inj (I : Inv X pins σ H s) (h : SqL X.K H a xs) (h' : SqL X.K H a ys) : xs = ys := by
  obtain ⟨its, r, ⟨o, n, e, _, _, d⟩, _⟩ := I.list h
  obtain ⟨its', r', ⟨o', n', e', _, _, d'⟩, _⟩ := I.list h'
  rw [e] at e'; cases e'
  rw [d] at d'
  injection d' with d1 _
  have : its = its' := by simpa using congrArg Array.toList d1
  subst this
  exact r.inj r'
theorem Inv.tuple_inj (I : Inv X pins σ H s) (h : SqT X.K H a xs) (h' : SqT X.K H a ys) : xs = ys := by
  obtain ⟨its, r, ⟨o, e, _, n, d⟩, _⟩ := I.tuple h
  obtain ⟨its', r', ⟨o', e', _, n', d'⟩, _⟩ := I.tuple h'
  rw [e] at e'; cases e'
  rw [d] at d'
  injection d' with d1 _
  have : its = its' := by simpa using congrArg Array.toList d1
  subst this
  exact r.inj r'
end
noncomputable abbrev Cx.wish (X : Cx) (E : Value → Shared → Prop) : Cx := { X with xe := E }
noncomputable abbrev Cx.nox (X : Cx) : Cx := X.wish fun _ _ => False
theorem Cx.Ok.wish {X : Cx} (ok : X.Ok) (E : Value → Shared → Prop) : (X.wish E).Ok :=
  ⟨ok.mod, ok.kind, ok.glob, ok.blt, ok.above, ok.inj, ok.has, ok.cab, ok.hd, ok.frames, ok.stk, ok.exf, ok.bs, ok.bsz, ok.noex, ok.exfs, ok.funs, ok.frf⟩
theorem Cx.Ok.unwish {X : Cx} {E : Value → Shared → Prop} (ok : (X.wish E).Ok) : X.Ok :=
  ⟨ok.mod, ok.kind, ok.glob, ok.blt, ok.above, ok.inj, ok.has, ok.cab, ok.hd, ok.frames, ok.stk, ok.exf, ok.bs, ok.bsz, ok.noex, ok.exfs, ok.funs, ok.frf⟩
section
variable {X : Cx} {pins : List (Addr × Obj)} {σ : St} {H : Hp} {s : Shared} {E : Value → Shared → Prop}
theorem Inv.wish (I : Inv X pins σ H s) (E : Value → Shared → Prop) : Inv (X.wish E) pins σ H s := ⟨I.ok.wish E, I.os, I.bare, I.base, I.loc, I.cell, I.free, I.freeC, I.pin, I.hok, I.len⟩
theorem Inv.unwish (I : Inv (X.wish E) pins σ H s) : Inv X pins σ H s := ⟨I.ok.unwish, I.os, I.bare, I.base, I.loc, I.cell, I.free, I.freeC, I.pin, I.hok, I.len⟩
theorem SP.unwish {D : Ends} {f : Flow} {s' : Shared} (h : SP (X.wish E) pins D f s') : SP X pins D f s' := by
  cases f with
  | next => obtain ⟨σ', H', I, q⟩ := h; exact ⟨σ', H', I.unwish, q⟩
  | brk => obtain ⟨σ', H', I, q⟩ := h; exact ⟨σ', H', I.unwish, q⟩
  | cont => obtain ⟨σ', H', I, q⟩ := h; exact ⟨σ', H', I.unwish, q⟩
  | ret u => obtain ⟨v, σ', H', I, r, q⟩ := h; exact ⟨v, σ', H', I.unwish, r, q⟩
theorem PSs.nox {st : List Stmt} {t : TS} (h : PSs X.nox st t) : PSs X st t := fun pins s σ H D I hw =>
  wpAny_mono (h pins s σ H D (I.wish _) hw) (fun _ _ q => q.unwish) fun _ _ z => False.elim z
end
section
variable {X : Cx} {st : Stmt} {rest : List Stmt} {t u : TS} {e : Expr} {te : TE} {pos : Pos}
noncomputable def tNext : TS := fun D σ H => D.nx σ H
noncomputable def tSeq (t u : TS) : TS := fun D σ H => t { D with nx := u D } σ H
theorem pss_nil : PSs X [] tNext := fun _ _ σ H _ I h => wpAny_execs_nil ⟨σ, H, I, h⟩
theorem pss_cons (h1 : PS X st t) (h2 : PSs X rest u) : PSs X (st :: rest) (tSeq t u) := by
  intro pins s σ H D I h
  refine wpAny_execs_cons (thn (h1 pins s σ H { D with nx := u D } I h) fun f s1 q => ?_)
  cases f with
  | next =>
    obtain ⟨σ', H', I', q⟩ := q
    exact h2 pins s1 σ' H' D I' q
  | ret v => exact q
  | brk => exact q
  | cont => exact q
theorem pss_one (h1 : PS X st t) : PSs X [st] t := by
  intro pins s σ H D I h
  refine wpAny_execs_cons (thn (h1 pins s σ H D I h) fun f s1 q => ?_)
  cases f with
  | next => exact wpAny_execs_nil q
  | ret v => exact q
  | brk => exact q
  | cont => exact q
theorem Inv.quiet {pins : List (Addr × Obj)} {σ : St} {H : Hp} {s : Shared} (I : Inv X pins σ H s) : interactive X.env = false := by simp [interactive, I.ok.kind]
noncomputable def tDrop (te : TE) : TS := fun D σ H => te σ H fun _ H1 => D.nx σ H1
theorem ps_expr (he : PE X e te) (hs : swapsWith e none pos.line X.env = pure false := by rfl) : PS X (.Expr e pos) (tDrop te) := by
  intro pins s σ H D I h
  exact wpAny_Expr_any (thn (he pins s σ H _ I h) fun v s1 ⟨x, H1, I1, r1, q1⟩ => ⟨σ, H1, I1, q1⟩) I.quiet hs
noncomputable def tRet (te : TE) : TS := fun D σ H => te σ H D.rt
theorem ps_ret (he : PE X e te) : PS X (.Return (some e) pos) (tRet te) := by
  intro pins s σ H D I h
  exact wpAny_Return_some (thn (he pins s σ H _ I h) fun v s1 ⟨x, H1, I1, r1, q1⟩ => ⟨x, σ, H1, I1, r1, q1⟩)
noncomputable def tIfS (c : TT) (t u : TS) : TS := fun D σ H => c σ H fun b H1 => if b = true then t D σ H1 else u D σ H1
theorem ps_if {c : Expr} {a b : List Stmt} {tc : TT} (hc : PT X c tc) (ha : PSs X a t) (hb : PSs X b u) : PS X (.If c a b pos) (tIfS tc t u) := by
  intro pins s σ H D I h
  refine wpAny_If (thn (hc pins s σ H _ I h) fun d s1 ⟨H1, I1, q1⟩ => ?_)
  cases d with
  | true => exact ha pins s1 σ H1 D I1 q1
  | false => exact hb pins s1 σ H1 D I1 q1
end
noncomputable abbrev TG := V → St → Hp → (St → Hp → Prop) → Prop
noncomputable abbrev TGs := List V → St → Hp → (St → Hp → Prop) → Prop
noncomputable def PG (X : Cx) (target : Expr) (t : TG) : Prop :=
  ∀ (pins : List (Addr × Obj)) (s : Shared) (σ : St) (H : Hp) (v : V) (u : Value) (Q : St → Hp → Prop), Inv X pins σ H s → RelV v u → t v σ H Q →
    wpAny (model X.prog X.w) X.A (assign target X.env u) (fun _ s' => ∃ σ' H', Inv X pins σ' H' s' ∧ Q σ' H') X.xe s
noncomputable def PGs (X : Cx) (ts : List Expr) (t : TGs) : Prop :=
  ∀ (pins : List (Addr × Obj)) (s : Shared) (σ : St) (H : Hp) (vs : List V) (us : List Value) (Q : St → Hp → Prop), Inv X pins σ H s → Vals vs us → t vs σ H Q →
    wpAny (model X.prog X.w) X.A (assignInOrder ((assignEach ts X.env).map (·.2)) us) (fun _ s' => ∃ σ' H', Inv X pins σ' H' s' ∧ Q σ' H') X.xe s
noncomputable abbrev TIp := V → V → Hp → VK → Prop
noncomputable def PIp (X : Cx) (op : Operator) (t : TIp) : Prop :=
  ∀ (pins : List (Addr × Obj)) (s : Shared) (σ : St) (H : Hp) (x y : V) (v u : Value) (Q : VK), Inv X pins σ H s → RelV x v → RelV y u → t x y H Q →
    wpAny (model X.prog X.w) X.A (inplaceOp op v u) (EP X pins σ Q) X.xe s
section
variable {X : Cx} {pos : Pos}
noncomputable def gName (i : Nat) : TG := fun v σ H Q => Q (σ.set i (some v)) H
theorem pg_name {i : Nat} {x : Str} (hN : X.N.Nodup) (hi : X.N[i]? = some x) (hx : Loc X.env.scope x) (hf : X.fn x = true ∨ X.env.scope.names.lookup x = some .local := by first | exact .inl rfl | exact .inr rfl | assumption) : PG X (.Name x pos) (gName i) := by
  intro pins s σ H v u Q I r h
  exact wpAny_assign_Name (store_ok I hN hi hx r (fun s' I' => ⟨_, H, I', h⟩) hf)
noncomputable def gNil : TGs := fun vs σ H Q => vs = [] ∧ Q σ H
noncomputable def gCons (t : TG) (u : TGs) : TGs := fun vs σ H Q => ∃ v r, vs = v :: r ∧ t v σ H fun σ' H' => u r σ' H' Q
theorem pgs_nil : PGs X [] gNil := by
  intro pins s σ H vs us Q I r h
  obtain ⟨e, h⟩ := h
  subst e
  cases r
  exact assignInOrder_nil ⟨σ, H, I, h⟩
theorem pgs_cons {e : Expr} {es : List Expr} {t : TG} {u : TGs} (h1 : PG X e t) (h2 : PGs X es u)
    (hs : (assignEach (e :: es) X.env).map (·.2) = assign e X.env :: (assignEach es X.env).map (·.2) := by rfl) : PGs X (e :: es) (gCons t u) := by
  intro pins s σ H vs us Q I r h
  obtain ⟨v, vr, e1, h⟩ := h
  subst e1
  cases r with
  | cons r rr =>
    rw [hs]
    refine assignInOrder_cons (thn (h1 pins s σ H _ _ _ I r h) fun _ s1 zPt => ?_)
    obtain ⟨σ1, H1, I1, q1⟩ := zPt
    exact h2 pins s1 σ1 H1 _ _ Q I1 rr q1
noncomputable def gTup (K : PySem.W.Frag) (n : Nat) (t : TGs) : TG := fun v σ H Q => ∃ a xs, v = .ref a ∧ SqT K H a xs ∧ xs.length = n ∧ t xs σ H Q
theorem pg_tup {es : List Expr} {k : Nat} {t : TGs} {n : Nat} (hc : X.calm = true) (h : PGs X es t)
    (hn : (assignEach es X.env).length = n := by rfl) (hst : (assignEach es X.env).findIdx? (·.1) = none := by rfl) : PG X (.Tuple es k pos) (gTup X.K n t) := by
  intro pins s σ H v u Q I r hw
  obtain ⟨a, xs, e1, hq, hl, hw⟩ := hw
  subst e1
  cases r
  obtain ⟨its, rv, ht, hz⟩ := I.tuple hq
  refine assign_Tuple_tuple (I.ok.hd hc) ht (by simp [hn, ← hl, rv.length]) hst fun h' hx => ?_
  have I1 : Inv X pins σ H { s with heap := h' } := I.kept (t' := s.toks) fun b o e => hx b o (Nat.ne_of_lt (Heap.lt_size e)) e
  exact h pins _ σ H xs _ Q I1 (by simpa using rv) hw
noncomputable def tAsg (te : TE) (g : TG) : TS := fun D σ H => te σ H fun x H1 => g x σ H1 D.nx
theorem ps_set {i : Nat} {x : Str} {e : Expr} {te : TE} {pos' : Pos} (hN : X.N.Nodup) (hi : X.N[i]? = some x) (hx : Loc X.env.scope x) (he : PE X e te) (hs : swapsWith e (some (.Name x pos')) pos.line X.env = pure false := by rfl) (hf : X.fn x = true ∨ X.env.scope.names.lookup x = some .local := by first | exact .inl rfl | exact .inr rfl | assumption) :
    PS X (.Assign [.Name x pos'] e pos) (tAsg te (gName i)) := by
  intro pins s σ H D I h
  refine wpAny_Assign_Name (thn (he pins s σ H _ I h) fun v s1 zPt => ?_) hs
  obtain ⟨y, H1, I1, r1, q1⟩ := zPt
  exact store_ok I1 hN hi hx r1 (fun s2 I2 => ⟨_, H1, I2, q1⟩) hf
noncomputable def tAug (i : Nat) (te : TE) (ti : TIp) : TS := fun D σ H => ∃ x, σ[i]? = some (some x) ∧ te σ H fun y H1 => ti x y H1 fun z H2 => D.nx (σ.set i (some z)) H2
theorem ps_aug {i : Nat} {x : Str} {e : Expr} {te : TE} {op : Operator} {ti : TIp} {pos' : Pos} (hN : X.N.Nodup) (hi : X.N[i]? = some x) (hx : Loc X.env.scope x) (he : PE X e te) (ho : PIp X op ti) (hf : X.fn x = true ∨ X.env.scope.names.lookup x = some .local := by first | exact .inl rfl | exact .inr rfl | assumption) :
    PS X (.AugAssign (.Name x pos') op e pos) (tAug i te ti) := by
  intro pins s σ H D I h
  obtain ⟨v, e1, h⟩ := h
  obtain ⟨m, hn, hl⟩ := I.loc
  have vis : Vis X.env.scope x := by rcases hx with k | k; exact .inl k; exact .inr (.inl k)
  obtain ⟨u, r, l⟩ := hl i x v hi e1 vis
  refine wpAny_AugAssign_Name ?_
  have go : wpAny (model X.prog X.w) X.A (eval e X.env) (fun w s₂ => wpAny (model X.prog X.w) X.A (inplaceOp op u w) (fun r s₃ => wpAny (model X.prog X.w) X.A (storeName X.env x r) (fun _ => SP X pins D .next) X.xe s₃) X.xe s₂) X.xe s := by
    refine thn (he pins s σ H _ I h) fun w s1 zPt => ?_
    obtain ⟨y, H1, I1, r1, q1⟩ := zPt
    refine thn (ho pins s1 σ H1 v y u w _ I1 r r1 q1) fun z s2 zPt => ?_
    obtain ⟨zv, H2, I2, r2, q2⟩ := zPt
    exact store_ok I2 hN hi hx r2 (fun s3 I3 => ⟨_, H2, I3, q2⟩) hf
  rcases l with ⟨hk, hm⟩ | ⟨hk, c, hc, hcell⟩
  · exact wpAny_loadName_local I.ok.kind hk hn hm go
  · rcases hk with hk | hk
    · exact wpAny_loadName_cell I.ok.kind hk hc hcell go
    · rcases hx with k | k
      · have : X.env.scope.names.lookup x = some .free := hk
        rw [k] at this; cases this
      · have : X.env.scope.names.lookup x = some .free := hk
        rw [k] at this; cases this
end
section
variable {X : Cx} {pos : Pos}
end
set_option genInjectivity false in
structure It where
  go : Nat → Hp → Prop
  yld : Nat → Hp → V → Hp → Prop
  stop : Nat → Hp → Prop
noncomputable def FpOk (X : Cx) (pins : List (Addr × Obj)) (H : Hp) (b : Addr) : Prop :=
  H b = none ∧ b ≠ X.env.locals ∧ b ∉ X.fs ∧ (b ∈ X.ex ∨ X.s₀.heap.objs.size ≤ b) ∧ (∀ x c, X.env.cells.lookup x = some c → c ≠ b) ∧ ∀ p ∈ X.pn ++ pins, p.1 ≠ b
theorem Inv.fpOk {X : Cx} {pins : List (Addr × Obj)} {σ : St} {H H' : Hp} {s : Shared} {b : Addr} (I : Inv X pins σ H s) (hb : s.heap.objs.size ≤ b) (hn : H' b = none) : FpOk X pins H' b := by
  refine ⟨hn, Nat.ne_of_gt (Nat.lt_of_lt_of_le I.lt hb), I.nofs hb, .inr (Nat.le_trans I.sz hb), fun x c e z => ?_, fun p hp z => ?_⟩
  · obtain ⟨v, q⟩ := I.cell x c e
    exact absurd (Nat.lt_of_lt_of_le q.lt (by rw [z]; exact hb)) (Nat.lt_irrefl _)
  · exact absurd (Nat.lt_of_lt_of_le (Heap.lt_size (I.pin p hp).1) (by rw [z]; exact hb)) (Nat.lt_irrefl _)
set_option genInjectivity false in
structure Turn (P : Program) (w : World) (K : PySem.W.Frag) (tg : Expr) (J : It) (fp : List Addr) (it : Addr) (tn : Nat → Heap → Prop) : Prop where
  mem : it ∈ fp
  obj : ∀ i h, tn i h → ∀ b ∈ fp, ∃ o, h.get? b = some o ∧ ∀ v, o.data ≠ .cell v
  keep : ∀ i h h', tn i h → (∀ b ∈ fp, ∀ o, h.get? b = some o → h'.get? b = some o) → tn i h'
  item : ∀ (X : Cx), X.prog = P → X.w = w → X.K = K → X.calm = true → ∀ (i : Nat) (pins : List (Addr × Obj)) (s : Shared) (σ : St) (H : Hp) (E : Value → Shared → Prop), Inv X pins σ H s → (∀ b ∈ fp, FpOk X pins H b) → tn i s.heap → J.go i H →
    wpAny (model P w) X.A (pyNext (.ref it)) (fun r s1 => ∃ u, r = some u ∧
      wpAny (model P w) X.A (letOwnedTupleGo tg (.ref it) u) (fun _ s2 => ∃ x H', Inv X pins σ H' s2 ∧ RelV x u ∧ J.yld i H x H' ∧ tn (i + 1) s2.heap ∧ ∀ b ∈ fp, H' b = none) E s1) E s
  done : ∀ (X : Cx), X.prog = P → X.w = w → X.K = K → X.calm = true → ∀ (i : Nat) (pins : List (Addr × Obj)) (s : Shared) (σ : St) (H : Hp) (E : Value → Shared → Prop), Inv X pins σ H s → (∀ b ∈ fp, FpOk X pins H b) → tn i s.heap → J.stop i H →
    wpAny (model P w) X.A (pyNext (.ref it)) (fun r s1 => r = none ∧ Inv X pins σ H s1) E s
  self : ∀ (A : Around) (i : Nat) (s : Shared) (Q : Value → Shared → Prop) (E : Value → Shared → Prop), tn i s.heap → Q (.ref it) s → wpAny (model P w) A (pyIter (.ref it)) Q E s
noncomputable abbrev TI := St → Hp → (It → Hp → Prop) → Prop
noncomputable def PIE (X : Cx) (pins : List (Addr × Obj)) (σ : St) (tg : Expr) (R : It → Hp → Prop) (itv : Value) (s2 : Shared) : Prop :=
  ∃ (it : Addr) (fp : List Addr) (tn : Nat → Heap → Prop) (J : It) (H' : Hp), itv = .ref it ∧ Inv X pins σ H' s2 ∧ Turn X.prog X.w X.K tg J fp it tn ∧ tn 0 s2.heap ∧ (∀ b ∈ fp, FpOk X pins H' b) ∧ R J H'
noncomputable def PI (X : Cx) (tg iter : Expr) (wi : TI) : Prop :=
  ∀ (pins : List (Addr × Obj)) (s : Shared) (σ : St) (H : Hp) (R : It → Hp → Prop), Inv X pins σ H s → wi σ H R →
    wpAny (model X.prog X.w) X.A (eval iter X.env) (fun v s1 => wpAny (model X.prog X.w) X.A (pyIter v) (PIE X pins σ tg R) X.xe s1) X.xe s
theorem go_of {M : Model} {A : Around} {E : Value → Shared → Prop} {s : Shared} {tg : Expr} {it : Addr} {u : Value} {o : Obj} {n : String} {vs : Array Value} {Q : Unit → Shared → Prop} (ho : s.heap.get? it = some o) (hc : o.cls = .type n) (hd : o.data = .fields vs)
    (hn : ["enumerate", "zip", "dict_itemiterator", "dict_reverseitemiterator", "odict_iterator", "itertools.zip_longest", "itertools.pairwise"].contains n = false) (hQ : Q () s) : wpAny M A (letOwnedTupleGo tg (.ref it) u) Q E s := by
  unfold letOwnedTupleGo
  cases tg <;> first
    | exact wpAny_pure hQ
    | (cases u <;> first
        | exact wpAny_pure hQ
        | (refine wpAny_bind (wpAny_load ho ?_)
           rw [hc, hd]
           show wpAny M A (if (["enumerate", "zip", "dict_itemiterator", "dict_reverseitemiterator", "odict_iterator", "itertools.zip_longest", "itertools.pairwise"].contains n && vs[0]? == some (rawInt _)) = true then _ else _) Q E s
           rw [if_neg (by intro h; rw [hn, Bool.false_and] at h; cases h)]
           exact wpAny_pure hQ))
noncomputable def Itl (K : PySem.W.Frag) (a : Addr) : It :=
  ⟨fun i H => ∃ xs x, SqL K H a xs ∧ xs[i]? = some x, fun i H x H' => H' = H ∧ ∀ xs, SqL K H a xs → xs[i]? = some x, fun i H => ∃ xs, SqL K H a xs ∧ xs.length ≤ i⟩
noncomputable def Itt (K : PySem.W.Frag) (a : Addr) : It :=
  ⟨fun i H => ∃ xs x, SqT K H a xs ∧ xs[i]? = some x, fun i H x H' => H' = H ∧ ∀ xs, SqT K H a xs → xs[i]? = some x, fun i H => ∃ xs, SqT K H a xs ∧ xs.length ≤ i⟩
noncomputable def Itr (lo : Int) (n : Nat) : It := ⟨fun i _ => i < n, fun i H x H' => H' = H ∧ x = .int (lo + i), fun i _ => n ≤ i⟩
theorem turn_list {P : Program} {w : World} {K : PySem.W.Frag} {tg : Expr} (a it : Addr) : Turn P w K tg (Itl K a) [it] it (fun i h => h.IsListIter it a i) where
  mem := by simp
  obj := fun i h st b hb => by
    have e : b = it := by simpa using hb
    subst e
    obtain ⟨o, e, c, d⟩ := st
    exact ⟨o, e, fun v z => by rw [d] at z; cases z⟩
  keep := fun i h h' st k => st.at fun o e => k it (by simp) o e
  item := by
    intro X hP hw hK hc i pins s σ H E I hf st hg
    subst hP hw hK
    obtain ⟨xs, x, hq, hx⟩ := hg
    obtain ⟨its, rv, p, hz⟩ := I.list hq
    obtain ⟨u, hu, ru⟩ := rv.get hx
    obtain ⟨f0, f1, f2, f3, f4, f5⟩ := hf it (by simp)
    refine wpAny_pyNext_list_item st p.isList (x := u) (by simpa using hu) fun h' st' sb => ?_
    have I1 : Inv X pins σ H { s with heap := h' } := I.turned (t' := s.toks) (fun b o hb e => (sb.2 b hb).trans e) f0 f1 f3 f4 f5
    obtain ⟨o, e, c, d⟩ := id st'
    exact ⟨u, rfl, go_of (s := { s with heap := h' }) e c d (by decide) ⟨x, H, I1, ru, ⟨rfl, fun ys hy => by rw [I.list_inj hy hq]; exact hx⟩, st', fun b hb => (hf b hb).1⟩⟩
  done := by
    intro X hP hw hK hc i pins s σ H E I hf st hg
    subst hP hw hK
    obtain ⟨xs, hq, hx⟩ := hg
    obtain ⟨its, rv, p, hz⟩ := I.list hq
    obtain ⟨f0, f1, f2, f3, f4, f5⟩ := hf it (by simp)
    have hl := rv.length
    exact wpAny_pyNext_list_end (I.ok.hd hc) st p.isList (by simp; omega) fun h' eb => ⟨rfl, I.turned (t' := s.toks) (fun b o hb e => eb b o hb e) f0 f1 f3 f4 f5⟩
  self := fun _ _ _ _ _ st h => wpAny_pyIter_listiter st h
theorem turn_tuple {P : Program} {w : World} {K : PySem.W.Frag} {tg : Expr} (a it : Addr) : Turn P w K tg (Itt K a) [it] it (fun i h => h.IsTupleIter it a i) where
  mem := by simp
  obj := fun i h st b hb => by
    have e : b = it := by simpa using hb
    subst e
    obtain ⟨o, e, c, d⟩ := st
    exact ⟨o, e, fun v z => by rw [d] at z; cases z⟩
  keep := fun i h h' st k => st.at fun o e => k it (by simp) o e
  item := by
    intro X hP hw hK hc i pins s σ H E I hf st hg
    subst hP hw hK
    obtain ⟨xs, x, hq, hx⟩ := hg
    obtain ⟨its, rv, p, hz⟩ := I.tuple hq
    obtain ⟨u, hu, ru⟩ := rv.get hx
    obtain ⟨f0, f1, f2, f3, f4, f5⟩ := hf it (by simp)
    refine wpAny_pyNext_tuple_item st (show s.heap.IsTuple a its.toArray from p) (x := u) (by simpa using hu) fun h' st' sb => ?_
    have I1 : Inv X pins σ H { s with heap := h' } := I.turned (t' := s.toks) (fun b o hb e => (sb.2 b hb).trans e) f0 f1 f3 f4 f5
    obtain ⟨o, e, c, d⟩ := id st'
    exact ⟨u, rfl, go_of (s := { s with heap := h' }) e c d (by decide) ⟨x, H, I1, ru, ⟨rfl, fun ys hy => by rw [I.tuple_inj hy hq]; exact hx⟩, st', fun b hb => (hf b hb).1⟩⟩
  done := by
    intro X hP hw hK hc i pins s σ H E I hf st hg
    subst hP hw hK
    obtain ⟨xs, hq, hx⟩ := hg
    obtain ⟨its, rv, p, hz⟩ := I.tuple hq
    obtain ⟨f0, f1, f2, f3, f4, f5⟩ := hf it (by simp)
    have hl := rv.length
    exact wpAny_pyNext_tuple_end (I.ok.hd hc) st (show s.heap.IsTuple a its.toArray from p) (by simp; omega) fun h' eb => ⟨rfl, I.turned (t' := s.toks) (fun b o hb e => eb b o hb e) f0 f1 f3 f4 f5⟩
  self := fun _ _ _ _ _ st h => wpAny_pyIter_tupleiter st h
theorem turn_range {P : Program} {w : World} {K : PySem.W.Frag} {tg : Expr} (it : Addr) (lo : Int) (n : Nat) : Turn P w K tg (Itr lo n) [it] it (fun i h => IsRangeIter h it (lo + (i : Nat) * 1) ((n : Int) - (i : Nat)) 1) where
  mem := by simp
  obj := fun i h st b hb => by
    have e : b = it := by simpa using hb
    subst e
    exact ⟨_, st, fun v z => by
      have z' : Data.fields _ = Data.cell v := z
      cases z'⟩
  keep := fun i h h' st k => k it (by simp) _ st
  item := by
    intro X hP hw hK hc i pins s σ H E I hf st hg
    subst hP hw hK
    obtain ⟨f0, f1, f2, f3, f4, f5⟩ := hf it (by simp)
    have W := Walks.range (prog := X.prog) (w := X.w) (I.ok.hd hc) it lo 1 n
    refine W.item i s _ _ hg st fun v h' tk hv st' kk => ?_
    obtain ⟨t, rfl⟩ := hv
    have I1 : Inv X pins σ H { s with heap := h', toks := tk } := I.turned (fun b o hb e => kk b o (by simpa using hb) e) f0 f1 f3 f4 f5
    refine ⟨_, rfl, go_of (s := { s with heap := h', toks := tk }) (n := "range_iterator") st' rfl rfl (by decide) ⟨.int (lo + i), H, I1, ⟨t, ?_⟩, ⟨rfl, rfl⟩, st', fun b hb => (hf b hb).1⟩⟩
    rw [Int.mul_one]
  done := by
    intro X hP hw hK hc i pins s σ H E I hf st hg
    subst hP hw hK
    obtain ⟨f0, f1, f2, f3, f4, f5⟩ := hf it (by simp)
    exact wpAny_pyNext_range_end (I.ok.hd hc) st (by have : n ≤ i := hg; omega) fun h' eb => ⟨rfl, I.turned (t' := s.toks) (fun b o hb e => eb b o hb e) f0 f1 f3 f4 f5⟩
  self := fun _ _ _ _ _ st h => wpAny_pyIter_rangeiter st h
end L2
namespace L2
open PySem PySem.Spec PyProof.Rows
section
variable {X : Cx} {tg : Expr}
noncomputable def iList (K : PySem.W.Frag) (tl : TE) : TI := fun σ H R => tl σ H fun x H1 => ∃ a, x = .ref a ∧ (∃ xs, SqL K H1 a xs) ∧ R (Itl K a) H1
noncomputable def iTup (K : PySem.W.Frag) (tl : TE) : TI := fun σ H R => tl σ H fun x H1 => ∃ a, x = .ref a ∧ (∃ xs, SqT K H1 a xs) ∧ R (Itt K a) H1
theorem pi_list {l : Expr} {tl : TE} (hl : PE X l tl) : PI X tg l (iList X.K tl) := by
  intro pins s σ H R I h
  refine thn (hl pins s σ H _ I h) fun v s1 zPt => ?_
  obtain ⟨x, H1, I1, r1, q1⟩ := zPt
  obtain ⟨a, e, ⟨xs, hq⟩, q⟩ := q1
  subst e
  cases r1
  obtain ⟨its, rv, p, hz⟩ := I1.list hq
  refine wpAny_pyIter_list p.isList ?_
  refine ⟨s1.heap.objs.size, [s1.heap.objs.size], _, _, H1, rfl, I1.kept (t' := s1.toks) fun b o e => Heap.get?_push_of_some _ e, turn_list a _, ⟨_, Heap.get?_push_size _ rfl, rfl, rfl⟩, fun b hb => ?_, q⟩
  have e : b = s1.heap.objs.size := by simpa using hb
  subst e
  exact I1.fpOk (Nat.le_refl _) (I1.hok.fresh (Nat.le_refl _))
theorem pi_tup {l : Expr} {tl : TE} (hl : PE X l tl) : PI X tg l (iTup X.K tl) := by
  intro pins s σ H R I h
  refine thn (hl pins s σ H _ I h) fun v s1 zPt => ?_
  obtain ⟨x, H1, I1, r1, q1⟩ := zPt
  obtain ⟨a, e, ⟨xs, hq⟩, q⟩ := q1
  subst e
  cases r1
  obtain ⟨its, rv, p, hz⟩ := I1.tuple hq
  refine wpAny_pyIter_tuple (show s1.heap.IsTuple a its.toArray from p) ?_
  refine ⟨s1.heap.objs.size, [s1.heap.objs.size], _, _, H1, rfl, I1.kept (t' := s1.toks) fun b o e => Heap.get?_push_of_some _ e, turn_tuple a _, ⟨_, Heap.get?_push_size _ rfl, rfl, rfl⟩, fun b hb => ?_, q⟩
  have e : b = s1.heap.objs.size := by simpa using hb
  subst e
  exact I1.fpOk (Nat.le_refl _) (I1.hok.fresh (Nat.le_refl _))
theorem range_it {pins : List (Addr × Obj)} {σ : St} {H : Hp} {s : Shared} {R : It → Hp → Prop} {E : Value → Shared → Prop} {lo hi : Int} {t u v : Tok} {tk : Nat} (I : Inv X pins σ H s) (h1 : -(2 ^ 62) ≤ lo) (h2 : lo < 2 ^ 62) (h3 : -(2 ^ 62) ≤ hi) (h4 : hi < 2 ^ 62)
    (q : R (Itr lo (hi - lo).toNat) H) : wpAny (model X.prog X.w) X.A (pyIter (.ref s.heap.objs.size)) (PIE X pins σ tg R) E { s with heap := s.heap.push { cls := .type "range", data := .fields #[.int lo t, .int hi u, .int 1 v] }, toks := tk } := by
  refine wpAny_pyIter_range (IsRange.new ..) (small_one h1 h2 h3 h4) ?_
  have I1 : Inv X pins σ H { s with heap := s.heap.push { cls := .type "range", data := .fields #[.int lo t, .int hi u, .int 1 v] }, toks := tk } := I.kept fun b o e => Heap.get?_push_of_some _ e
  refine ⟨(s.heap.push { cls := .type "range", data := .fields #[.int lo t, .int hi u, .int 1 v] }).objs.size, [(s.heap.push { cls := .type "range", data := .fields #[.int lo t, .int hi u, .int 1 v] }).objs.size], _, _, H, rfl,
    I1.kept (t' := tk) fun b o e => Heap.get?_push_of_some _ e, turn_range _ lo (hi - lo).toNat, ?_, fun b hb => ?_, q⟩
  · have e1 : lo + ((0 : Nat) : Int) * 1 = lo := by simp
    have e2 : (((hi - lo).toNat : Nat) : Int) - ((0 : Nat) : Int) = Builtin.Range.rangeSize lo hi 1 := by rw [rangeSize_one]; split <;> omega
    show IsRangeIter _ _ (lo + ((0 : Nat) : Int) * 1) ((((hi - lo).toNat : Nat) : Int) - ((0 : Nat) : Int)) 1
    rw [e1, e2]
    exact Heap.get?_push_size _ rfl
  · have e : b = (s.heap.push { cls := .type "range", data := .fields #[.int lo t, .int hi u, .int 1 v] }).objs.size := by simpa using hb
    subst e
    exact I1.fpOk (Nat.le_refl _) (I1.hok.fresh (Nat.le_refl _))
noncomputable def iRng1 (ta : TA) : TI := fun σ H R => ta σ H fun vs H1 => ∃ j : Int, vs = [.int j] ∧ -(2 ^ 62) ≤ j ∧ j < 2 ^ 62 ∧ R (Itr 0 j.toNat) H1
noncomputable def iRng2 (ta : TA) : TI := fun σ H R => ta σ H fun vs H1 => ∃ i j : Int, vs = [.int i, .int j] ∧ (-(2 ^ 62) ≤ i ∧ i < 2 ^ 62 ∧ -(2 ^ 62) ≤ j ∧ j < 2 ^ 62) ∧ R (Itr i (j - i).toNat) H1
theorem pi_range1 {a : Expr} {ta : TA} {p pos : Pos} (hg : Gl X "range") (hm : X.mg "range" = none) (ha : PA X [a] ta) (hs : starEach [a] X.env = [(false, eval a X.env)] := by rfl) : PI X tg (.Call (.Name "range" p) [a] [] pos) (iRng1 ta) := by
  intro pins s σ H R I h
  refine Call_ (ld_blt I hg hm boot_range (PyProof.Rows.callWith_type1 (thn (ha pos pins s σ H _ I h) fun us s1 ⟨vs, H1, I1, r1, q1⟩ => ?_) hs rfl))
  obtain ⟨j, e, q1, q2, q⟩ := q1
  subst e
  cases r1 with
  | cons r rr =>
    cases rr
    obtain ⟨t, rfl⟩ := r
    exact call_range_1 (range_it I1 (by (first | assumption | decide | omega)) (by (first | assumption | decide | omega)) q1 q2 (by simpa using q))
theorem pi_range2 {a b : Expr} {ta : TA} {p pos : Pos} (hg : Gl X "range") (hm : X.mg "range" = none) (ha : PA X [a, b] ta) (hs : starEach [a, b] X.env = [(false, eval a X.env), (false, eval b X.env)] := by rfl) (hs2 : starEach [b] X.env = [(false, eval b X.env)] := by rfl) :
    PI X tg (.Call (.Name "range" p) [a, b] [] pos) (iRng2 ta) := by
  intro pins s σ H R I h
  refine Call_ (ld_blt I hg hm boot_range (PyProof.Rows.callWith_type1 (thn (ha pos pins s σ H _ I h) fun us s1 ⟨vs, H1, I1, r1, q1⟩ => ?_) (by rw [hs, hs2]) (by rw [hs2]; rfl)))
  obtain ⟨i, j, e, ⟨q1, q2, q3, q4⟩, q⟩ := q1
  subst e
  cases r1 with
  | cons r rr =>
    cases rr with
    | cons r' rr =>
      cases rr
      obtain ⟨t, rfl⟩ := r
      obtain ⟨t', rfl⟩ := r'
      exact call_range_2 (range_it I1 q1 q2 q3 q4 q)
noncomputable def tFor (wi : TI) (g : TG) (tb : TS) : TS := fun D σ H => wi σ H fun J H1 => ∃ W : Nat → Nat → St → Hp → Prop, (∃ m, W 0 m σ H1) ∧ ∀ i m σ H, W i m σ H →
  (J.stop i H ∧ D.nx σ H) ∨ (J.go i H ∧ ∃ N : St → Hp → Prop, (∀ σ' H', N σ' H' → ∃ m', m' < m ∧ W (i + 1) m' σ' H') ∧ ∀ x H', J.yld i H x H' → g x σ H' fun σ2 H2 => tb { D with nx := N, ct := N, bk := D.nx } σ2 H2)
noncomputable def pinsAt (fp : List Addr) (h : Heap) : List (Addr × Obj) := fp.filterMap fun b => (h.get? b).map fun o => (b, o)
theorem mem_pinsAt {fp : List Addr} {h : Heap} {b : Addr} {o : Obj} (hb : b ∈ fp) (e : h.get? b = some o) : (b, o) ∈ pinsAt fp h := List.mem_filterMap.mpr ⟨b, hb, by rw [e]; rfl⟩
theorem of_pinsAt {fp : List Addr} {h : Heap} {p : Addr × Obj} (hp : p ∈ pinsAt fp h) : p.1 ∈ fp ∧ h.get? p.1 = some p.2 := by
  obtain ⟨b, hb, e⟩ := List.mem_filterMap.mp hp
  cases q : h.get? b with
  | none => rw [q] at e; cases e
  | some o =>
    rw [q] at e
    have e' : (b, o) = p := Option.some.inj e
    subst e'
    exact ⟨hb, q⟩
theorem Inv.pinned {pins : List (Addr × Obj)} {σ : St} {H : Hp} {s : Shared} {fp : List Addr} (I : Inv X pins σ H s) (hf : ∀ b ∈ fp, FpOk X pins H b) (ho : ∀ b ∈ fp, ∃ o, s.heap.get? b = some o ∧ ∀ v, o.data ≠ .cell v) : Inv X (pins ++ pinsAt fp s.heap) σ H s :=
  I.pins_of fun p hp => (List.mem_append.mp hp).elim (fun z => I.pin p (List.mem_append_right _ z)) fun z => by
    obtain ⟨hb, e⟩ := of_pinsAt z
    obtain ⟨f0, f1, f2, _⟩ := hf p.1 hb
    obtain ⟨o, e', d⟩ := ho p.1 hb
    rw [e] at e'; cases e'
    exact ⟨e, f0, f1, f2, d⟩
theorem Inv.unpinned {pins pl : List (Addr × Obj)} {σ : St} {H : Hp} {s : Shared} (I : Inv X (pins ++ pl) σ H s) : Inv X pins σ H s := I.pins_of fun p hp => I.pin p (List.mem_append_right _ (List.mem_append_left _ hp))
theorem ps_for {iter : Expr} {body : List Stmt} {wi : TI} {g : TG} {tb : TS} {pos : Pos} (hp : PassesOwn (model X.prog X.w) X.A X.env X.xe) (hc : X.calm = true) (hi : PI X tg iter wi) (hg : PG X tg g) (hb : PSs X body tb)
    (hs : ∀ x, foldedSetIterable iter X.env x = pure x := by intro _; rfl) : PS X (.For tg iter body [] pos) (tFor wi g tb) := by
  intro pins s σ H D I h
  refine wpAny_For (thn (hi pins s σ H _ I h) fun v s1 h1 => thn h1 fun itv s2 h2 => ?_) hs
  obtain ⟨it, fp, tn, J, H2, e, I2, T, st2, f2, W, ⟨m0, w0⟩, turn⟩ := h2
  subst e
  have stat : ∀ {H' : Hp}, (∀ b ∈ fp, H' b = none) → ∀ b ∈ fp, FpOk X pins H' b := fun hn b hb => ⟨hn b hb, (f2 b hb).2⟩
  refine codeAny_forLoop_any (fun n s' => ∃ i σ' H', Inv X pins σ' H' s' ∧ tn i s'.heap ∧ (∀ b ∈ fp, H' b = none) ∧ W i n σ' H') ?_ m0 ⟨0, σ, H2, I2, st2, fun b hb => (f2 b hb).1, w0⟩
  rintro n s3 ⟨i, σ3, H3, I3, st3, fr3, w3⟩
  rcases turn i n σ3 H3 w3 with ⟨stop, qn⟩ | ⟨go, N, hN, step⟩
  · refine wpAny_passesOwn hp (thn (T.done X rfl rfl rfl hc i pins s3 σ3 H3 X.xe I3 (stat fr3) st3 stop) fun r s4 ⟨hr, I4⟩ => ?_)
    subst hr
    exact wpAny_execs_nil ⟨σ3, H3, I4, qn⟩
  · refine wpAny_passesOwn hp (thn (T.item X rfl rfl rfl hc i pins s3 σ3 H3 X.xe I3 (stat fr3) st3 go) fun r s4 ⟨u, hr, h4⟩ => ?_)
    subst hr
    refine wpAny_passesOwn hp (thn h4 fun _ s5 zPt => ?_)
    obtain ⟨x, H5, I5, r5, y5, st5, fr5⟩ := zPt
    have I5' := I5.pinned (stat fr5) (T.obj _ _ st5)
    refine wpAny_passesOwn hp (thn (hg _ s5 σ3 H5 x u _ I5' r5 (step x H5 y5)) fun _ s6 zPt => ?_)
    obtain ⟨σ6, H6, I6, q6⟩ := zPt
    refine wpAny_passesOwn hp (thn (hb _ s6 σ6 H6 _ I6 q6) fun f s7 q7 => ?_)
    have again : ∀ {σ7 : St} {H7 : Hp}, Inv X (pins ++ pinsAt fp s5.heap) σ7 H7 s7 → N σ7 H7 → ∃ m, m < n ∧ ∃ i σ' H', Inv X pins σ' H' s7 ∧ tn i s7.heap ∧ (∀ b ∈ fp, H' b = none) ∧ W i m σ' H' := fun {σ7 H7} I7 n7 => by
      obtain ⟨m', hm, w7⟩ := hN σ7 H7 n7
      refine ⟨m', hm, i + 1, σ7, H7, I7.unpinned, T.keep _ _ _ st5 fun b hb o e => (I7.pin (b, o) (List.mem_append_right _ (List.mem_append_right _ (mem_pinsAt hb e)))).1, fun b hb => ?_, w7⟩
      obtain ⟨o, e, d⟩ := T.obj _ _ st5 b hb
      exact (I7.pin (b, o) (List.mem_append_right _ (List.mem_append_right _ (mem_pinsAt hb e)))).2.1
    cases f with
    | next => obtain ⟨σ7, H7, I7, n7⟩ := q7; exact again I7 n7
    | cont => obtain ⟨σ7, H7, I7, n7⟩ := q7; exact again I7 n7
    | brk => obtain ⟨σ7, H7, I7, q7⟩ := q7; exact ⟨σ7, H7, I7.unpinned, q7⟩
    | ret v => obtain ⟨x7, σ7, H7, I7, r7, q7⟩ := q7; exact ⟨x7, σ7, H7, I7.unpinned, r7, q7⟩
end
end L2
namespace L2
open PySem PySem.Spec PyProof.Rows
noncomputable abbrev R2 := V → V → Hp → VK → Prop
noncomputable def OpR (X : Cx) (f : Value → Value → Sem Value) (r : R2) : Prop :=
  ∀ (pins : List (Addr × Obj)) (s : Shared) (σ : St) (H : Hp) (x y : V) (v u : Value) (Q : VK), Inv X pins σ H s → RelV x v → RelV y u → r x y H Q →
    wpAny (model X.prog X.w) X.A (f v u) (EP X pins σ Q) X.xe s
noncomputable def CallR (X : Cx) (f : Value) (r : List V → Hp → VK → Prop) : Prop :=
  ∀ (pins : List (Addr × Obj)) (s : Shared) (σ : St) (H : Hp) (xs : List V) (us : List Value) (Q : VK), Inv X pins σ H s → Vals xs us → r xs H Q →
    wpAny (model X.prog X.w) X.A (call f us) (EP X pins σ Q) X.xe s
noncomputable def tOp (r : R2) (ta tb : TE) : TE := fun σ H Q => ta σ H fun x H1 => tb σ H1 fun y H2 => r x y H2 Q
noncomputable def rI (C : Int → Int → Prop) (g : Int → Int → V) : R2 := fun x y H Q => ∃ i j, x = .int i ∧ y = .int j ∧ C i j ∧ Q (g i j) H
noncomputable def rI0 (g : Int → Int → V) : R2 := fun x y H Q => ∃ i j, x = .int i ∧ y = .int j ∧ Q (g i j) H
section
variable {X : Cx} {a b c : Expr} {ta tb tc : TE} {pos : Pos}
theorem binT (ha : PE X a ta) (hb : PE X b tb) {pins : List (Addr × Obj)} {s : Shared} {σ : St} {H : Hp} {R : V → V → Hp → Prop} (I : Inv X pins σ H s)
    (h : ta σ H fun x H1 => tb σ H1 fun y H2 => R x y H2) {Q : Value → Shared → Prop} {f : Value → Value → Sem Value}
    (hf : ∀ v u s2 x y H2, Inv X pins σ H2 s2 → RelV x v → RelV y u → R x y H2 → wpAny (model X.prog X.w) X.A (f v u) Q X.xe s2) :
    wpAny (model X.prog X.w) X.A (eval a X.env) (fun v s₁ => wpAny (model X.prog X.w) X.A (eval b X.env) (fun u s₂ => wpAny (model X.prog X.w) X.A (f v u) Q X.xe s₂) X.xe s₁) X.xe s := by
  refine thn (ha pins s σ H _ I h) fun v s1 zPt => ?_
  obtain ⟨x, H1, I1, r1, q1⟩ := zPt
  refine thn (hb pins s1 σ H1 _ I1 q1) fun u s2 zPt => ?_
  obtain ⟨y, H2, I2, r2, q2⟩ := zPt
  exact hf v u s2 x y H2 I2 r1 r2 q2
theorem pe_op {op : Operator} {r : R2} (ho : OpR X (binaryOp op) r) (ha : PE X a ta) (hb : PE X b tb) : PE X (.BinOp a op b pos) (tOp r ta tb) := by
  intro pins s σ H Q I h
  exact wpAny_BinOp (binT ha hb I h fun v u s2 x y H2 I2 rx ry q => ho pins s2 σ H2 x y v u Q I2 rx ry q)
theorem opI {f : Value → Value → Sem Value} {C : Int → Int → Prop} {g : Int → Int → Int}
    (rule : ∀ (i j : Int) (t u : Tok) (s : Shared) (Q : Value → Shared → Prop) (E : Value → Shared → Prop), C i j → Q (.int (g i j) s.toks) { s with toks := s.toks + 1 } → wpAny (model X.prog X.w) X.A (f (.int i t) (.int j u)) Q E s) :
    OpR X f (rI C fun i j => .int (g i j)) := by
  intro pins s σ H x y v u Q I rx ry h
  obtain ⟨i, j, rfl, rfl, hc, q⟩ := h
  obtain ⟨t, rfl⟩ := rx
  obtain ⟨t', rfl⟩ := ry
  exact rule i j t t' s _ _ hc ⟨.int (g i j), H, I.tok _, ⟨_, rfl⟩, q⟩
theorem opI0 {f : Value → Value → Sem Value} {g : Int → Int → Int}
    (rule : ∀ (i j : Int) (t u : Tok) (s : Shared) (Q : Value → Shared → Prop) (E : Value → Shared → Prop), Q (.int (g i j) s.toks) { s with toks := s.toks + 1 } → wpAny (model X.prog X.w) X.A (f (.int i t) (.int j u)) Q E s) :
    OpR X f (rI0 fun i j => .int (g i j)) := by
  intro pins s σ H x y v u Q I rx ry h
  obtain ⟨i, j, rfl, rfl, q⟩ := h
  obtain ⟨t, rfl⟩ := rx
  obtain ⟨t', rfl⟩ := ry
  exact rule i j t t' s _ _ ⟨.int (g i j), H, I.tok _, ⟨_, rfl⟩, q⟩
theorem opB0 {f : Value → Value → Sem Value} {g : Int → Int → Bool}
    (rule : ∀ (i j : Int) (t u : Tok) (s : Shared) (Q : Value → Shared → Prop) (E : Value → Shared → Prop), Q (.bool (g i j)) s → wpAny (model X.prog X.w) X.A (f (.int i t) (.int j u)) Q E s) :
    OpR X f (rI0 fun i j => .bl (g i j)) := by
  intro pins s σ H x y v u Q I rx ry h
  obtain ⟨i, j, rfl, rfl, q⟩ := h
  obtain ⟨t, rfl⟩ := rx
  obtain ⟨t', rfl⟩ := ry
  exact rule i j t t' s _ _ ⟨.bl (g i j), H, I, rfl, q⟩
noncomputable def CPow (i j : Int) : Prop := 0 ≤ j ∧ j ≤ 1000000 ∧ i.natAbs < 2 ^ 64
noncomputable def CMul (i j : Int) : Prop := (-(2 ^ 64) < i ∧ i < 2 ^ 64) ∨ (-(2 ^ 64) < j ∧ j < 2 ^ 64)
theorem CMul.ok {i j : Int} (h : CMul i j) : IntMulOk i j := by
  rcases h with ⟨h1, h2⟩ | ⟨h1, h2⟩
  · exact .of_left (intBits_le_64 h1 h2)
  · exact .of_right (intBits_le_64 h1 h2)
theorem two_pow_nn (k : Nat) : (0 : Int) ≤ 2 ^ k := by
  rw [two_pow_cast]
  exact Int.natCast_nonneg _
theorem op_add : OpR X (binaryOp .Add) (rI0 fun i j => .int (i + j)) := opI0 fun _ _ _ _ _ _ _ q => add_int q
theorem op_sub : OpR X (binaryOp .Sub) (rI0 fun i j => .int (i - j)) := opI0 fun _ _ _ _ _ _ _ q => sub_int q
theorem op_mul : OpR X (binaryOp .Mult) (rI CMul fun i j => .int (i * j)) := opI fun _ _ _ _ _ _ _ hc q => mul_int q hc.ok
theorem op_mod : OpR X (binaryOp .Mod) (rI (fun _ j => 0 < j) fun i j => .int (i % j)) := opI fun i j _ _ _ _ _ hc q => by
  have h1 : (0 : Int) < j := hc
  exact mod_int' (by (first | assumption | decide | omega)) (by rw [Int.fmod_eq_emod_of_nonneg i (by (first | assumption | decide | omega))]; exact q)
theorem op_shl : OpR X (binaryOp .LShift) (rI CPow fun i j => .int (i * 2 ^ j.toNat)) := opI fun _ _ _ _ _ _ _ hc q => lshift_int_small hc.1 hc.2.1 hc.2.2 q
theorem op_shr : OpR X (binaryOp .RShift) (rI (fun _ j => 0 ≤ j) fun i j => .int (i / 2 ^ j.toNat)) := opI fun i j _ _ _ _ _ hc q =>
  rshift_int hc (by rw [Int.fdiv_eq_ediv_of_nonneg i (two_pow_nn _)]; exact q)
theorem op_and : OpR X (binaryOp .BitAnd) (rI0 fun i j => .int (Builtin.bitAnd i j)) := opI0 fun _ _ _ _ _ _ _ q => and_int q
theorem iop_or : OpR X (inplaceOp .BitOr) (rI0 fun i j => .int (Builtin.bitOr i j)) := opI0 fun _ _ _ _ _ _ _ q => ior_int q
end
noncomputable def scal : V → V → Bool
  | .non, .non => true | .non, .int _ => true | .int _, .non => true | .non, .bl _ => true | .bl _, .non => true | .non, .str _ => true | .str _, .non => true
  | .int _, .int _ => true | .bl _, .bl _ => true | .str _, .str _ => true | .byt _, .byt _ => true
  | .int _, .str _ => true | .str _, .int _ => true | .bl _, .str _ => true | .str _, .bl _ => true
  | _, _ => false
noncomputable def rEq : R2 := fun x y H Q => scal x y = true ∧ Q (.bl (decide (x = y))) H
noncomputable def rNe : R2 := fun x y H Q => scal x y = true ∧ Q (.bl (!decide (x = y))) H
theorem dec_int {i j : Int} : decide (V.int i = V.int j) = (i == j) := by
  rw [Bool.eq_iff_iff]
  simp
theorem dec_bl {i j : Bool} : decide (V.bl i = V.bl j) = (i == j) := by
  rw [Bool.eq_iff_iff]
  simp
theorem dec_str {i j : Str} : decide (V.str i = V.str j) = (i == j) := by
  rw [Bool.eq_iff_iff]
  simp
theorem dec_byt {i j : Array UInt8} : decide (V.byt i = V.byt j) = (i.toList == j.toList) := by
  rw [Bool.eq_iff_iff]
  cases i
  cases j
  simp
section
variable {X : Cx} {a b c : Expr} {ta tb tc : TE} {pos : Pos}
theorem fin_bl {pins : List (Addr × Obj)} {σ : St} {H : Hp} {s : Shared} {Q : VK} {k k' : Bool} (I : Inv X pins σ H s) (q : Q (.bl k) H) (e : k = k') : EP X pins σ Q (.bool k') s := by
  subst e
  exact ⟨.bl k, H, I, rfl, q⟩
theorem op_eq : OpR X (compareOp .Eq) rEq := by
  intro pins s σ H x y v u Q I rx ry h
  obtain ⟨hs, q⟩ := h
  cases x with
  | non =>
    cases rx
    cases y with
    | non => cases ry; exact PySem.EqNone.eq_none_none (fin_bl I q (by simp))
    | bl j => cases ry; exact PySem.EqNone.eq_none_bool (fin_bl I q (by simp))
    | int j => obtain ⟨t', rfl⟩ := ry; exact PySem.EqNone.eq_none_int (fin_bl I q (by simp))
    | str j => obtain ⟨t', rfl⟩ := ry; exact PySem.EqNone.eq_none_str (fin_bl I q (by simp))
    | _ => exact absurd (show false = true from hs) Bool.false_ne_true
  | bl i =>
    cases rx
    cases y with
    | non => cases ry; exact PySem.EqNone.eq_bool_none (fin_bl I q (by simp))
    | bl j => cases ry; exact eq_bool (fin_bl I q dec_bl)
    | str j => obtain ⟨t', rfl⟩ := ry; exact PySem.EqMixed.eq_bool_str (fin_bl I q (by simp))
    | _ => exact absurd (show false = true from hs) Bool.false_ne_true
  | int i =>
    obtain ⟨t, rfl⟩ := rx
    cases y with
    | non => cases ry; exact PySem.EqNone.eq_int_none (fin_bl I q (by simp))
    | int j => obtain ⟨t', rfl⟩ := ry; exact eq_int (fin_bl I q dec_int)
    | str j => obtain ⟨t', rfl⟩ := ry; exact PySem.EqMixed.eq_int_str (fin_bl I q (by simp))
    | _ => exact absurd (show false = true from hs) Bool.false_ne_true
  | str i =>
    obtain ⟨t, rfl⟩ := rx
    cases y with
    | non => cases ry; exact PySem.EqNone.eq_str_none (fin_bl I q (by simp))
    | bl j => cases ry; exact PySem.EqMixed.eq_str_bool (fin_bl I q (by simp))
    | int j => obtain ⟨t', rfl⟩ := ry; exact PySem.EqMixed.eq_str_int (fin_bl I q (by simp))
    | str j => obtain ⟨t', rfl⟩ := ry; exact eq_str (fin_bl I q dec_str)
    | _ => exact absurd (show false = true from hs) Bool.false_ne_true
  | byt i =>
    obtain ⟨t, rfl⟩ := rx
    cases y with
    | byt j => obtain ⟨t', rfl⟩ := ry; exact PySem.W.eq_bytes (fin_bl I q dec_byt)
    | _ => exact absurd (show false = true from hs) Bool.false_ne_true
  | _ => cases y <;> exact absurd (show false = true from hs) Bool.false_ne_true
theorem op_ne : OpR X (compareOp .NotEq) rNe := by
  intro pins s σ H x y v u Q I rx ry h
  obtain ⟨hs, q⟩ := h
  cases x with
  | non =>
    cases rx
    cases y with
    | non => cases ry; exact PySem.EqNone.ne_none_none (fin_bl I q (by simp))
    | bl j => cases ry; exact PySem.EqNone.ne_none_bool (fin_bl I q (by simp))
    | int j => obtain ⟨t', rfl⟩ := ry; exact PySem.EqNone.ne_none_int (fin_bl I q (by simp))
    | str j => obtain ⟨t', rfl⟩ := ry; exact PySem.EqNone.ne_none_str (fin_bl I q (by simp))
    | _ => exact absurd (show false = true from hs) Bool.false_ne_true
  | bl i =>
    cases rx
    cases y with
    | non => cases ry; exact PySem.EqNone.ne_bool_none (fin_bl I q (by simp))
    | bl j => cases ry; exact ne_bool (fin_bl I q (congrArg not dec_bl))
    | str j => obtain ⟨t', rfl⟩ := ry; exact PySem.EqMixed.ne_bool_str (fin_bl I q (by simp))
    | _ => exact absurd (show false = true from hs) Bool.false_ne_true
  | int i =>
    obtain ⟨t, rfl⟩ := rx
    cases y with
    | non => cases ry; exact PySem.EqNone.ne_int_none (fin_bl I q (by simp))
    | int j => obtain ⟨t', rfl⟩ := ry; exact ne_int (fin_bl I q (congrArg not dec_int))
    | str j => obtain ⟨t', rfl⟩ := ry; exact PySem.EqMixed.ne_int_str (fin_bl I q (by simp))
    | _ => exact absurd (show false = true from hs) Bool.false_ne_true
  | str i =>
    obtain ⟨t, rfl⟩ := rx
    cases y with
    | non => cases ry; exact PySem.EqNone.ne_str_none (fin_bl I q (by simp))
    | bl j => cases ry; exact PySem.EqMixed.ne_str_bool (fin_bl I q (by simp))
    | int j => obtain ⟨t', rfl⟩ := ry; exact PySem.EqMixed.ne_str_int (fin_bl I q (by simp))
    | str j => obtain ⟨t', rfl⟩ := ry; exact ne_str (fin_bl I q (congrArg not dec_str))
    | _ => exact absurd (show false = true from hs) Bool.false_ne_true
  | byt i =>
    obtain ⟨t, rfl⟩ := rx
    cases y with
    | byt j => obtain ⟨t', rfl⟩ := ry; exact PySem.W.ne_bytes (fin_bl I q (congrArg not dec_byt))
    | _ => exact absurd (show false = true from hs) Bool.false_ne_true
  | _ => cases y <;> exact absurd (show false = true from hs) Bool.false_ne_true
theorem op_lt : OpR X (compareOp .Lt) (rI0 fun i j => .bl (decide (i < j))) := opB0 fun _ _ _ _ _ _ _ q => lt_int q
theorem op_le : OpR X (compareOp .LtE) (rI0 fun i j => .bl (decide (i ≤ j))) := opB0 fun _ _ _ _ _ _ _ q => le_int q
theorem op_isN : OpR X (compareOp .Is) (fun x y H Q => y = .non ∧ Q (.bl (decide (x = .non))) H) := by
  intro pins s σ H x y v u Q I rx ry h
  obtain ⟨rfl, q⟩ := h
  cases ry
  refine is_none_gen (fin_bl I q ?_)
  cases x <;> first
    | (cases rx; rfl)
    | (obtain ⟨t, rfl⟩ := rx; rfl)
theorem nomark (b : Expr) {op : CmpOp} (h : op ≠ .In := by decide) (h2 : op ≠ .NotIn := by decide) : behindInMarks op b = false := by
  have e1 : (op == CmpOp.In) = false := by cases op <;> first | rfl | exact absurd rfl h
  have e2 : (op == CmpOp.NotIn) = false := by cases op <;> first | rfl | exact absurd rfl h2
  cases b <;> simp [behindInMarks, e1, e2]
theorem pe_cmpR {op : CmpOp} {r : R2} (ho : OpR X (compareOp op) r) (ha : PE X a ta) (hb : PE X b tb) (hm : behindInMarks op b = false) : PE X (.Compare a [op] [b] pos) (tOp r ta tb) := by
  intro pins s σ H Q I h
  exact wpAny_Compare1 (binT ha hb I h fun v u s2 x y H2 I2 rx ry q => ho pins s2 σ H2 x y v u Q I2 rx ry q) hm
noncomputable def tTest (t : TE) : TT := fun σ H Q => t σ H fun x H' => ∃ k, x = .bl k ∧ Q k H'
theorem pt_cmpR {op : CmpOp} {r : R2} (ho : OpR X (compareOp op) r) (ha : PE X a ta) (hb : PE X b tb) (hm : behindInMarks op b = false) : PT X (.Compare a [op] [b] pos) (tTest (tOp r ta tb)) := by
  intro pins s σ H Q I h
  refine wpAny_isTrue_Compare1 (thn (ha pins s σ H _ I h) fun v s1 ⟨x, H1, I1, r1, q1⟩ => thn (hb pins s1 σ H1 _ I1 q1) fun u s2 ⟨y, H2, I2, r2, q2⟩ =>
    thn (ho pins s2 σ H2 x y v u _ I2 r1 r2 q2) fun c s3 ⟨z, H3, I3, r3, k, e, q3⟩ => ?_) hm
  subst e
  cases r3
  exact wpAny_truthy_bool ⟨H3, I3, q3⟩
noncomputable def tChain (r r' : R2) (ta tb tc : TE) : TE := fun σ H Q => ta σ H fun x H1 => tb σ H1 fun y H2 => r x y H2 fun z H3 => ∃ k, z = .bl k ∧
  (if k = true then tc σ H3 fun w' H4 => r' y w' H4 Q else Q (.bl false) H3)
theorem pe_chain {op op' : CmpOp} {r r' : R2} (ho : OpR X (compareOp op) r) (ho' : OpR X (compareOp op') r') (ha : PE X a ta) (hb : PE X b tb) (hc : PE X c tc)
    (hm : lastMarks [op, op'] [b, c] = false := by with_unfolding_all rfl) : PE X (.Compare a [op, op'] [b, c] pos) (tChain r r' ta tb tc) := by
  intro pins s σ H Q I h
  refine Compare_chain (thn (ha pins s σ H _ I h) fun v s1 ⟨x, H1, I1, r1, q1⟩ => chain_link (thn (hb pins s1 σ H1 _ I1 q1) fun u s2 ⟨y, H2, I2, r2, q2⟩ =>
    thn (ho pins s2 σ H2 x y v u _ I2 r1 r2 q2) fun d s3 ⟨z, H3, I3, r3, k, e, q3⟩ => ?_)) hm
  subst e
  cases r3
  refine wpAny_truthy_bool ?_
  cases k with
  | false => exact ite_ff ⟨.bl false, H3, I3, rfl, q3⟩
  | true => exact ite_tt (chain_last (thn (hc pins s3 σ H3 _ I3 q3) fun w' s4 ⟨z', H4, I4, r4, q4⟩ => ho' pins s4 σ H4 y z' u w' Q I4 r2 r4 q4))
theorem line63 : (sizeLine : Nat) < 2 ^ 63 := by rw [sizeLine_eq]; decide
theorem vals1 {x : V} {us : List Value} (r : Vals [x] us) : ∃ u, us = [u] ∧ RelV x u := by
  cases r with
  | cons r1 r2 => cases r2; exact ⟨_, rfl, r1⟩
theorem vals2 {x y : V} {us : List Value} (r : Vals [x, y] us) : ∃ u w', us = [u, w'] ∧ RelV x u ∧ RelV y w' := by
  cases r with
  | cons r1 r2 =>
    cases r2 with
    | cons r3 r4 => cases r4; exact ⟨_, _, rfl, r1, r3⟩
theorem call_max2 (hc : X.calm = true) : CallR X (.builtin "max") (fun xs H Q => ∃ i j, xs = [.int i, .int j] ∧ Q (.int (if j > i then j else i)) H) := by
  intro pins s σ H xs us Q I r h
  obtain ⟨i, j, rfl, q⟩ := h
  obtain ⟨u, w', rfl, ⟨t, rfl⟩, ⟨t', rfl⟩⟩ := vals2 r
  refine max_two_ints (I.ok.hd hc) fun h' tk k => ⟨_, H, I.kept k, ?_, q⟩
  by_cases hj : j > i
  · rw [if_pos hj, if_pos hj]; exact ⟨_, rfl⟩
  · rw [if_neg hj, if_neg hj]; exact ⟨_, rfl⟩
theorem call_min2 (hc : X.calm = true) : CallR X (.builtin "min") (fun xs H Q => ∃ i j, xs = [.int i, .int j] ∧ Q (.int (if j < i then j else i)) H) := by
  intro pins s σ H xs us Q I r h
  obtain ⟨i, j, rfl, q⟩ := h
  obtain ⟨u, w', rfl, ⟨t, rfl⟩, ⟨t', rfl⟩⟩ := vals2 r
  refine min_two_ints (I.ok.hd hc) fun h' tk k => ⟨_, H, I.kept k, ?_, q⟩
  by_cases hj : j < i
  · rw [if_pos hj, if_pos hj]; exact ⟨_, rfl⟩
  · rw [if_neg hj, if_neg hj]; exact ⟨_, rfl⟩
noncomputable def LenV (K : PySem.W.Frag) (x : V) (H : Hp) (n : Nat) : Prop :=
  match x with
  | .str y => y.length ≤ sizeLine ∧ n = y.length
  | .byt y => y.size ≤ sizeLine ∧ n = y.size
  | .ref p => (∃ xs, SqL K H p xs ∧ n = xs.length) ∨ ∃ xs, SqT K H p xs ∧ n = xs.length
  | _ => False
theorem call_len : CallR X (.builtin "len") (fun xs H Q => ∃ x n, xs = [x] ∧ LenV X.K x H n ∧ Q (.int n) H) := by
  intro pins s σ H xs us Q I r h
  obtain ⟨x, n, rfl, e, q⟩ := h
  obtain ⟨u, rfl, rx⟩ := vals1 r
  have hl := line63
  have hs : sizeLine = 16777216 := sizeLine_eq
  cases x with
  | str y =>
    obtain ⟨t, rfl⟩ := rx
    obtain ⟨hy, e'⟩ : y.length ≤ sizeLine ∧ n = y.length := e
    subst e'
    exact len_str (by (first | assumption | decide | omega)) ⟨.int _, H, I.tok _, ⟨_, rfl⟩, q⟩
  | byt y =>
    obtain ⟨t, rfl⟩ := rx
    obtain ⟨hy, e'⟩ : y.size ≤ sizeLine ∧ n = y.size := e
    subst e'
    exact PySem.W.len_bytes (by (first | assumption | decide | omega)) ⟨.int _, H, I.tok _, ⟨_, rfl⟩, q⟩
  | ref p =>
    cases rx
    have e' : (∃ xs, SqL X.K H p xs ∧ n = xs.length) ∨ ∃ xs, SqT X.K H p xs ∧ n = xs.length := e
    rcases e' with ⟨xs, hx, e'⟩ | ⟨xs, hx, e'⟩
    · subst e'
      obtain ⟨its, r', pl, hz⟩ := I.list hx
      have hlen := r'.length
      exact Calls.call_len_list pl.isList (by simp only [List.size_toArray]; omega) ⟨.int xs.length, H, I.tok _, ⟨_, by simp only [List.size_toArray]; rw [hlen]⟩, q⟩
    · subst e'
      obtain ⟨its, r', pl, hz⟩ := I.tuple hx
      have hlen := r'.length
      exact len_tuple pl (by simp only [List.size_toArray]; omega) ⟨.int xs.length, H, I.tok _, ⟨_, by simp only [List.size_toArray]; rw [hlen]⟩, q⟩
  | _ => exact (show False from e).elim
end
end L2
namespace L2
open PySem PySem.Spec PyProof.Rows
set_option genInjectivity false in
structure ObjM (h : Heap) (x dx C : Addr) (mA : Str → Option Value) : Prop where
  obj : h.get? x = some (PySem.W.instObj C dx)
  ns : h.Ns1 dx mA
  ne : dx ≠ x
theorem lookIn_ns {h : Heap} {dx : Addr} {mA : Str → Option Value} (n : h.Ns1 dx mA) : ∃ od, h.get? dx = some od ∧ ∀ name, PySem.W.lookIn name od = some (mA name) := by
  obtain ⟨o, es, ep, ho, hd, hk, _, hm⟩ := n
  refine ⟨o, ho, fun name => ?_⟩
  have e := hm name
  unfold nsFind findBy at e
  rw [← Array.find?_toList] at e
  unfold PySem.W.lookIn
  rw [hd]
  dsimp only
  split
  · rename_i y q
    rw [q] at e
    exact congrArg some e
  · rename_i q
    rw [q] at e
    have a : es.toList.any (·.refKey) = false := by
      rw [List.any_eq_false]
      intro y hy
      obtain ⟨z, t, hkey⟩ := hk y (Array.mem_toList_iff.mp hy)
      simp [DictEntry.refKey, hkey]
    have a' : ¬ es.toList.any (·.refKey) = true := by rw [a]; exact Bool.false_ne_true
    rw [if_neg a']
    exact congrArg some e
theorem ObjM.look {h : Heap} {x dx C : Addr} {mA : Str → Option Value} (I : ObjM h x dx C mA) : ∃ od, PySem.W.InstAt h x (PySem.W.instObj C dx) C (some od) ∧ ∀ name, PySem.W.lookIn name od = some (mA name) :=
  let ⟨od, ho, hl⟩ := lookIn_ns I.ns
  ⟨od, ⟨I.obj, rfl, rfl, ho⟩, hl⟩
section
variable {prog : Program} {w : World} {A : Around} {E : Value → Shared → Prop} {s : Shared} {K : PySem.W.Frag} {x dx C f : Addr} {mA : Str → Option Value} {name : Str} {v : Value}
theorem get_map {expr : Bool} {Q : Value → Shared → Prop} (X : K.In s.heap) (I : ObjM s.heap x dx C mA) (hg : PySem.W.plainGet K C name = true) (hh : PySem.W.hasDictIn K C = true)
    (ha : PySem.W.findIn K (.ref C) name = some none) (hv : mA name = some v) (hv' : PySem.W.handedIn v = true) (h : Q v { s with toks := s.toks + 1 }) :
    wpAny (model prog w) A (getAttr (.ref x) name expr) Q E s := by
  obtain ⟨od, J, hl⟩ := I.look
  exact PySem.W.get_value X J (PySem.W.plainGet_of hg).1 (PySem.W.findObj_own hh ha rfl (by rw [hl, hv])) hv' h
theorem get_meth {pl : Sem Bool} {Q : Value × List Value → Shared → Prop} (X : K.In s.heap) (I : ObjM s.heap x dx C mA) (hg : PySem.W.plainGet K C name = true)
    (hf : PySem.W.findIn K (.ref C) name = some (some (.ref f))) (ht : PySem.W.isFn K (.ref f) = true) (hv : mA name = none) (h : Q (.ref f, [.ref x]) s) :
    wpAny (model prog w) A (getMethod (.ref x) name pl) Q E s := by
  obtain ⟨od, J, hl⟩ := I.look
  exact PySem.W.method_fn X J (PySem.W.plainGet_of hg).1 (PySem.W.plainGet_of hg).2 hf (beq_iff_eq.mp ht) (by show (PySem.W.lookIn name od).map (·.isSome) = some false; rw [hl, hv]; rfl) h
theorem set_map {ns : List Str} {Q : Unit → Shared → Prop} (X : K.In s.heap) (I : ObjM s.heap x dx C mA)
    (hs : PySem.W.findIn K (.ref C) "__setattr__" = some (some (.builtin "object.__setattr__"))) (hp : PySem.W.plainOver K C = true) (ht : PySem.W.takerIn K C name = some none) (hh : PySem.W.hasDictIn K C = true)
    (hw : PySem.Within mA ns) (hsz : ns.length ≤ sizeLine)
    (h : ∀ h', ObjM h' x dx C (fun y => if y = name then some v else mA y) → Heap.SameBut dx s.heap h' → Q () { s with heap := h', toks := s.toks + 2 }) :
    wpAny (model prog w) A (setAttr (.ref x) name v) Q E s := by
  obtain ⟨od, J, hl⟩ := I.look
  refine PySem.W.set_plain X J hs (PySem.W.osa_open (s := { s with toks := s.toks + 1 }) (r := none) X J hp ht fun b => ?_)
  obtain ⟨cd, hc, hd'⟩ := PySem.W.any_some hh
  have hx : s.heap.get? x = some ⟨.ref C, some dx, .plain, #[]⟩ := I.obj
  refine wpAny_bind (wpAny_pure (wpAny_bind (wpAny_bind (wpAny_loadPart hx (wpAny_bind (PySem.W.Looks.here (s := { s with toks := s.toks + 1 }) (PySem.W.looks_clsIn X hc) ?_))))))
  rw [hd']
  refine wpAny_pure (a := some dx) (wpAny_bind (wpAny_pure (wpAny_bind ?_)))
  refine wpAny_nsSet1 (s := { s with toks := s.toks + 1 }) I.ns fun h' hn2 hs2 => ?_
  obtain ⟨oD, esD, epD, hoD, hdD, hcD⟩ := hn2.count (PySem.Within.cons name v hw)
  refine wpAny_bind (wpAny_lookBehind hoD (by rw [hdD]; exact pastItsLine_dict (Nat.le_trans hcD (by rw [List.length_cons]; omega))) ?_)
  exact wpAny_pure (h _ ⟨(hs2.2 _ (Ne.symm I.ne)).trans I.obj, hn2, I.ne⟩ hs2)
theorem make_map {R : Result → Shared → Prop} {vs : List Value} {kw : List (Str × Value)} (X : K.In s.heap) (hm : PySem.W.makesIn K C = true)
    (hi : PySem.W.findIn K (.ref C) "__init__" = some (some (.ref f))) (hf : PySem.W.typeIn K (.ref f) = some (.type "function"))
    (h : codeAny (model prog w) (A.under (.builtin "type.__call__" ⟨.ref C :: vs, kw⟩)) (.call (.ref f) ⟨.ref (s.heap.objs.size + 1) :: vs, kw⟩) (PySem.W.InitBack (s.heap.objs.size + 1) R)
      { s with heap := (s.heap.push PySem.W.emptyDict).push (PySem.W.instObj C s.heap.objs.size) }) :
    codeAny (model prog w) A (.call (.ref C) ⟨vs, kw⟩) R s := by
  obtain ⟨hh, g, d, t, os⟩ := s
  exact PySem.W.make_core (PySem.W.makes_of X hm) (PySem.W.looks_findIn X hi) (fun self => PySem.W.bind_fn X self hf) (.inl rfl) h
end
noncomputable def putF (f : Str) (v : V) : List (Str × V) → List (Str × V)
  | [] => [(f, v)]
  | (g, x) :: r => if g = f then (g, v) :: r else (g, x) :: putF f v r
theorem lookup_putF (f g : Str) (v : V) : ∀ fs : List (Str × V), (putF f v fs).lookup g = if g = f then some v else fs.lookup g
  | [] => by
    show List.lookup g [(f, v)] = _
    by_cases h : g = f
    · have hb : (g == f) = true := beq_iff_eq.mpr h
      simp only [List.lookup, hb, if_pos h]
    · have hb : (g == f) = false := beq_eq_false_iff_ne.mpr h
      simp only [List.lookup, hb, if_neg h]
  | (k, x) :: r => by
    have ih := lookup_putF f g v r
    rw [show putF f v ((k, x) :: r) = (if k = f then (k, v) :: r else (k, x) :: putF f v r) from rfl]
    by_cases hk : k = f
    · rw [if_pos hk]
      by_cases h : g = k
      · have hb : (g == k) = true := beq_iff_eq.mpr h
        simp only [List.lookup, hb, if_pos (h.trans hk)]
      · have hb : (g == k) = false := beq_eq_false_iff_ne.mpr h
        simp only [List.lookup, hb, if_neg (fun e : g = f => h (e.trans hk.symm))]
    · rw [if_neg hk]
      by_cases h : g = k
      · have hb : (g == k) = true := beq_iff_eq.mpr h
        simp only [List.lookup, hb, if_neg (fun e : g = f => hk (h.symm.trans e))]
      · have hb : (g == k) = false := beq_eq_false_iff_ne.mpr h
        simp only [List.lookup, hb]
        exact ih
theorem keys_putF (f : Str) (v : V) : ∀ fs : List (Str × V), f ∈ (putF f v fs).map (·.1) ∧ ∀ g, g ∈ fs.map (·.1) → g ∈ (putF f v fs).map (·.1)
  | [] => ⟨by simp [putF], fun g h => by simp at h⟩
  | (k, x) :: r => by
    obtain ⟨i1, i2⟩ := keys_putF f v r
    rw [show putF f v ((k, x) :: r) = (if k = f then (k, v) :: r else (k, x) :: putF f v r) from rfl]
    by_cases hk : k = f
    · rw [if_pos hk]
      subst hk
      exact ⟨by simp, fun g h => by simpa using h⟩
    · rw [if_neg hk]
      refine ⟨?_, fun g h => ?_⟩
      · rw [List.map_cons]
        exact List.mem_cons_of_mem _ i1
      · rw [List.map_cons] at h ⊢
        rcases List.mem_cons.mp h with e | e
        · exact List.mem_cons.mpr (.inl e)
        · exact List.mem_cons_of_mem _ (i2 g e)
theorem length_putF (f : Str) (v : V) : ∀ fs : List (Str × V), (putF f v fs).length ≤ fs.length + 1
  | [] => by simp [putF]
  | (k, x) :: r => by
    have ih := length_putF f v r
    rw [show putF f v ((k, x) :: r) = (if k = f then (k, v) :: r else (k, x) :: putF f v r) from rfl]
    by_cases hk : k = f
    · rw [if_pos hk, List.length_cons, List.length_cons]; omega
    · rw [if_neg hk, List.length_cons, List.length_cons]; omega
theorem RelO.some_of {v : V} {o : Option Value} (r : RelO (some v) o) : ∃ u, o = some u ∧ RelV v u := by
  cases o with
  | none => exact (show False from r).elim
  | some u => exact ⟨u, rfl, r⟩
theorem RelO.none_of {o : Option Value} (r : RelO none o) : o = none := by
  cases o with
  | none => rfl
  | some u => exact (show False from r).elim
theorem handed_of {v : V} {u : Value} (r : RelV v u) : PySem.W.handedIn u = true := by
  cases v with
  | non => cases (show u = Value.none from r); rfl
  | bl b => cases (show u = Value.bool b from r); rfl
  | int i => obtain ⟨t, e⟩ := (show ∃ t, u = Value.int i t from r); cases e; rfl
  | str x => obtain ⟨t, e⟩ := (show ∃ t, u = Value.str x t from r); cases e; rfl
  | byt b => obtain ⟨t, e⟩ := (show ∃ t, u = Value.bytes b t from r); cases e; rfl
  | flt b => obtain ⟨t, e⟩ := (show ∃ t, u = Value.float b t from r); cases e; rfl
  | ref a => cases (show u = Value.ref a from r); rfl
  | ty n => cases (show u = Value.type n from r); rfl
section
variable {P : Program} {w : World} {H H' : Hp} {h h' : Heap} {a C dx : Addr} {fs fs' : List (Str × V)}
theorem ins_get (hok : HOk P w H h) (e : H a = some (.ins C dx fs)) : ∃ mA, ObjM h a dx C mA ∧ (∀ f, RelO (fs.lookup f) (mA f)) ∧ PySem.Within mA (fs.map (·.1)) ∧ fs.length ≤ 1000 ∧ H dx = some (.own a) := by
  obtain ⟨d, z, ne, ob, mA, n, r, q⟩ := (show ObjOk P w H h a (.ins C dx fs) from hok a _ e)
  exact ⟨mA, ⟨ob, n, ne⟩, r, q, z, d⟩
end
set_option genInjectivity false in
structure Cls (K : PySem.W.Frag) (C : Addr) : Prop where
  pg : PySem.W.plainGet K C Str.empty = true
  hd : PySem.W.hasDictIn K C = true
  po : PySem.W.plainOver K C = true
  sa : PySem.W.findIn K (.ref C) "__setattr__" = some (some (.builtin "object.__setattr__"))
theorem Cls.get {K : PySem.W.Frag} {C : Addr} (c : Cls K C) (f : Str) : PySem.W.plainGet K C f = true := c.pg
noncomputable def NoAttr (K : PySem.W.Frag) (C : Addr) (f : Str) : Prop := PySem.W.findIn K (.ref C) f = some none
theorem NoAttr.taker {K : PySem.W.Frag} {C : Addr} {f : Str} (n : NoAttr K C f) : PySem.W.takerIn K C f = some none := by
  unfold PySem.W.takerIn
  rw [show PySem.W.findIn K (.ref C) f = some none from n]
  rfl
set_option genInjectivity false in
structure Meth (K : PySem.W.Frag) (C : Addr) (m : Str) (f : Addr) : Prop where
  at_ : PySem.W.findIn K (.ref C) m = some (some (.ref f))
  fn : PySem.W.isFn K (.ref f) = true
  kp : PySem.W.keepIn K (.ref f) = true
section
variable {X : Cx} {pins : List (Addr × Obj)} {σ : St} {H : Hp} {s : Shared} {a C dx : Addr} {fs : List (Str × V)} {f : Str} {v : V} {A : Around} {E : Value → Shared → Prop}
theorem getattr_ok {b : Bool} {Q : Value → Shared → Prop} (I : Inv X pins σ H s) (e : H a = some (.ins C dx fs)) (c : Cls X.K C) (n : NoAttr X.K C f) (l : fs.lookup f = some v)
    (h : ∀ u s', Inv X pins σ H s' → RelV v u → Q u s') : wpAny (model X.prog X.w) A (getAttr (.ref a) f b) Q E s := by
  obtain ⟨mA, O, r, _, _, _⟩ := ins_get I.hok e
  obtain ⟨u, hu, ru⟩ := RelO.some_of (v := v) (o := mA f) (by rw [← l]; exact r f)
  exact get_map I.kIn O (c.get f) c.hd n hu (handed_of ru) (h u _ (I.tok _) ru)
theorem getmeth_ok {m : Str} {g : Addr} {pl : Sem Bool} {Q : Value × List Value → Shared → Prop} (I : Inv X pins σ H s) (e : H a = some (.ins C dx fs)) (c : Cls X.K C) (k : Meth X.K C m g) (l : fs.lookup m = none)
    (h : Q (.ref g, [.ref a]) s) : wpAny (model X.prog X.w) A (getMethod (.ref a) m pl) Q E s := by
  obtain ⟨mA, O, r, _, _, _⟩ := ins_get I.hok e
  have hn : mA m = none := RelO.none_of (by rw [← l]; exact r m)
  exact get_meth I.kIn O (c.get m) k.at_ k.fn hn h
theorem setattr_ok {y : V} {u : Value} {Q : Unit → Shared → Prop} (I : Inv X pins σ H s) (e : H a = some (.ins C dx fs)) (c : Cls X.K C) (n : NoAttr X.K C f) (hl : fs.length < 1000) (ry : RelV y u)
    (h : ∀ s', Inv X pins σ (upd H a (.ins C dx (putF f y fs))) s' → Q () s') : wpAny (model X.prog X.w) A (setAttr (.ref a) f u) Q E s := by
  obtain ⟨mA, O, r, wi, _, ho⟩ := ins_get I.hok e
  have hz : (fs.map (·.1)).length ≤ sizeLine := by rw [List.length_map, sizeLine_eq]; omega
  refine set_map I.kIn O c.sa c.po n.taker c.hd wi hz fun h' O' sb => h _ ?_
  have hd : ∃ o, h'.get? dx = some o := let ⟨o, _, _, e', _⟩ := O'.ns; ⟨o, e'⟩
  refine I.write (x := a) (e := dx) (by rw [e]; exact True.intro) (.inr ho) (fun b q hb z => (sb.2 b hb).trans z) hd ?_
  refine ⟨by rw [upd_ne O.ne]; exact ho, ?_, O.ne, O'.obj, _, O'.ns, fun g => ?_, fun g hg => ?_⟩
  · have := length_putF f y fs; omega
  · show RelO ((putF f y fs).lookup g) (if g = f then some u else mA g)
    rw [lookup_putF]
    by_cases q : g = f
    · rw [if_pos q, if_pos q]; exact ry
    · rw [if_neg q, if_neg q]; exact r g
  · by_cases q : g = f
    · rw [q]; exact (keys_putF f y fs).1
    · refine (keys_putF f y fs).2 g (wi g fun z => hg ?_)
      show (if g = f then some u else mA g) = none
      rw [if_neg q]; exact z
theorem Inv.made (I : Inv X pins σ H s) : Inv X pins σ (upd (upd H s.heap.objs.size (.own (s.heap.objs.size + 1))) (s.heap.objs.size + 1) (.ins C s.heap.objs.size []))
    { s with heap := (s.heap.push PySem.W.emptyDict).push (PySem.W.instObj C s.heap.objs.size) } := by
  have e1 : (s.heap.push PySem.W.emptyDict).get? s.heap.objs.size = some PySem.W.emptyDict := Heap.get?_push_size s.heap rfl
  have e2 : ((s.heap.push PySem.W.emptyDict).push (PySem.W.instObj C s.heap.objs.size)).get? (s.heap.objs.size + 1) = some (PySem.W.instObj C s.heap.objs.size) := by
    have := Heap.get?_push_size (s.heap.push PySem.W.emptyDict) (o := PySem.W.instObj C s.heap.objs.size) rfl
    rwa [Heap.size_push] at this
  have e3 : (s.heap.push PySem.W.emptyDict).Ns s.heap.objs.size (fun _ => none) := ⟨PySem.W.emptyDict, #[], _, e1, rfl, (fun e he => absurd he (by simp)), fun _ => rfl⟩
  have I1 := I.laid (a := s.heap.objs.size) (o := .own (s.heap.objs.size + 1)) (h' := s.heap.push PySem.W.emptyDict) (t' := s.toks) (fun b u q => Heap.get?_push_of_some _ q) (Nat.le_refl _) ⟨_, e1⟩
  refine I1.laid (a := s.heap.objs.size + 1) (o := .ins C s.heap.objs.size []) (t' := s.toks) (fun b u q => Heap.get?_push_of_some _ q) (Nat.le_of_eq (Heap.size_push _ _)) ?_
  have ne : s.heap.objs.size ≠ s.heap.objs.size + 1 := Nat.ne_of_lt (Nat.lt_succ_self _)
  refine ⟨by rw [upd_ne ne, upd_same], Nat.zero_le _, ne, e2, fun _ => none, (Heap.Ns1.of_empty e3).at fun o q => Heap.get?_push_of_some _ q, fun _ => True.intro, fun y hy => absurd rfl hy⟩
theorem attr_of {prog : Program} {w : World} {env : Env} {e : Expr} {f : Str} {pos : Pos} {s : Shared} {Q : Value → Shared → Prop} (hb : attributeBase e f env (eval e env) = eval e env)
    (h : wpAny (model prog w) A (eval e env) (fun o s₁ => wpAny (model prog w) A (getAttr o f true) Q E s₁) E s) : wpAny (model prog w) A (eval (.Attribute e f pos) env) Q E s :=
  Attribute_any_ h (by rw [arm_eval_Attribute, hb])
end
noncomputable def tFld (K : PySem.W.Frag) (ta : TE) (f : Str) : TE := fun σ H Q => ta σ H fun x H1 => ∃ a C dx fs v, x = .ref a ∧ H1 a = some (.ins C dx fs) ∧ Cls K C ∧ NoAttr K C f ∧ fs.lookup f = some v ∧ Q v H1
noncomputable def sFld (K : PySem.W.Frag) (ta tv : TE) (f : Str) : TS := fun D σ H => tv σ H fun y H1 => ta σ H1 fun x H2 => ∃ a C dx fs, x = .ref a ∧ H2 a = some (.ins C dx fs) ∧ Cls K C ∧ NoAttr K C f ∧ fs.length < 1000 ∧
  D.nx σ (upd H2 a (.ins C dx (putF f y fs)))
section
variable {X : Cx} {o e value : Expr} {f : Str} {pos pos' tpos : Pos} {ta tv : TE}
theorem pe_fld (he : PE X e ta) (hb : attributeBase e f X.env (eval e X.env) = eval e X.env) : PE X (.Attribute e f pos) (tFld X.K ta f) := by
  intro pins s σ H Q I h
  refine attr_of hb (thn (he pins s σ H _ I h) fun u s1 zPt => ?_)
  obtain ⟨x, H1, I1, rx, a, C, dx, fs, v, ex, ea, c, n, l, q⟩ := zPt
  subst ex
  obtain rfl : u = Value.ref a := rx
  exact getattr_ok I1 ea c n l fun u' s2 I2 ru => ⟨v, H1, I2, ru, q⟩
theorem ps_fld (ha : PE X o ta) (hv : PE X value tv) (hs : swapsWith value (some (.Attribute o f pos')) pos.line X.env = pure false) : PS X (.Assign [.Attribute o f pos'] value pos) (sFld X.K ta tv f) := by
  intro pins s σ H D I h
  refine plainObj_wpAny_Assign_Attribute (thn (hv pins s σ H _ I h) fun u s1 ⟨y, H1, I1, ry, q⟩ => thn (ha pins s1 σ H1 _ I1 q) fun ov s2 zPt => ?_) hs
  obtain ⟨x, H2, I2, rx, a, C, dx, fs, ex, ea, c, n, l, q2⟩ := zPt
  subst ex
  obtain rfl : ov = Value.ref a := rx
  exact setattr_ok I2 ea c n l ry fun s3 I3 => ⟨σ, _, I3, q2⟩
end
section
variable {X : Cx} {pins : List (Addr × Obj)} {σ : St} {H : Hp} {s : Shared} {A : Around} {E : Value → Shared → Prop} {Q : Value → Shared → Prop} {c : Value} {b : Bool}
inductive TyOf (K : PySem.W.Frag) (H : Hp) : V → Value → Prop where
  | non : TyOf K H .non (.type "NoneType")
  | bl (x : Bool) : TyOf K H (.bl x) (.type "bool")
  | int (i : Int) : TyOf K H (.int i) (.type "int")
  | str (x : Str) : TyOf K H (.str x) (.type "str")
  | flt (x : UInt64) : TyOf K H (.flt x) (.type "float")
  | lst {a : Addr} {xs : List V} (e : H a = some (.lst xs)) : TyOf K H (.ref a) (.type "list")
  | frz {a : Addr} {o : Obj} {xs : List V} (e : H a = some (.frz o (.lst xs))) : TyOf K H (.ref a) (.type "list")
  | tup {a : Addr} {xs : List V} (e : H a = some (.tup xs)) : TyOf K H (.ref a) (.type "tuple")
  | dK {a : Addr} {kvs : List (Key × V)} (e : H a = some (.dK kvs)) : TyOf K H (.ref a) (.type "dict")
  | dT {a : Addr} {kvs : List (List Key × V)} (e : H a = some (.dT kvs)) : TyOf K H (.ref a) (.type "dict")
  | ins {a C dx : Addr} {fs : List (Str × V)} (e : H a = some (.ins C dx fs)) (cl : Cls K C) (ha : PySem.W.findIn K (.ref C) "__class__" = some (some (.builtin "object.__class__")))
      (hn : PySem.W.specialIn K (.builtin "object.__class__") "__get__" = some (some (.builtin "getset_descriptor.__get__"))) (htk : PySem.W.takesIn K (.builtin "object.__class__") = some true)
      (hm : PySem.W.mroIn K C (.type "object") = some true) : TyOf K H (.ref a) (.ref C)
theorem isinst_ok {x : V} {u t : Value} (I : Inv X pins σ H s) (rx : RelV x u) (ty : TyOf X.K H x t) (e : PySem.W.kitOne X.K t c = some b) (h : ∀ tk, Q (.bool b) { s with toks := tk }) :
    wpAny (model X.prog X.w) A (call (.builtin "isinstance") [u, c]) Q E s := by
  cases ty with
  | non => cases (show u = Value.none from rx); exact PySem.W.kia_one PySem.W.kitx_none I.kIn True.intro e (fun z => nomatch z) h
  | bl y => cases (show u = Value.bool y from rx); exact PySem.W.kia_one PySem.W.kitx_bool I.kIn True.intro e (fun z => nomatch z) h
  | int i => obtain ⟨t, q⟩ := (show ∃ t, u = Value.int i t from rx); cases q; exact PySem.W.kia_one PySem.W.kitx_int I.kIn True.intro e (fun z => nomatch z) h
  | str y => obtain ⟨t, q⟩ := (show ∃ t, u = Value.str y t from rx); cases q; exact PySem.W.kia_one PySem.W.kitx_str I.kIn True.intro e (fun z => nomatch z) h
  | flt y => obtain ⟨t, q⟩ := (show ∃ t, u = Value.float y t from rx); cases q; exact PySem.W.kia_one PySem.W.kitx_float I.kIn True.intro e (fun z => nomatch z) h
  | @lst a xs ea =>
    cases (show u = Value.ref a from rx)
    obtain ⟨_, _, n, _, h1⟩ := (show ObjOk X.prog X.w H s.heap a (.lst xs) from I.hok a _ ea)
    exact PySem.W.kia_one PySem.W.kitx_list I.kIn ⟨_, h1, rfl⟩ e (fun z => nomatch z) h
  | @frz a ob xs ea =>
    cases (show u = Value.ref a from rx)
    obtain ⟨_, _, _, n, _, h1⟩ := (show ObjOk X.prog X.w H s.heap a (.frz ob (.lst xs)) from I.hok a _ ea)
    exact PySem.W.kia_one PySem.W.kitx_list I.kIn ⟨_, h1, rfl⟩ e (fun z => nomatch z) h
  | @tup a xs ea =>
    cases (show u = Value.ref a from rx)
    obtain ⟨_, _, _, p⟩ := (show ObjOk X.prog X.w H s.heap a (.tup xs) from I.hok a _ ea)
    obtain ⟨o, h1, h2, _⟩ := p
    exact PySem.W.kia_one PySem.W.kitx_tuple I.kIn ⟨o, h1, h2⟩ e (fun z => nomatch z) h
  | @dK a kvs ea =>
    cases (show u = Value.ref a from rx)
    obtain ⟨_, _, vs, _, p⟩ := (show ObjOk X.prog X.w H s.heap a (.dK kvs) from I.hok a _ ea)
    obtain ⟨o, es, ep, h1, h2, _⟩ := p
    exact PySem.W.kia_one PySem.W.kitx_dict I.kIn ⟨o, h1, h2.1⟩ e (fun z => nomatch z) h
  | @dT a kvs ea =>
    cases (show u = Value.ref a from rx)
    obtain ⟨_, _, xs, _, o, es, ep, h1, h2, _⟩ := (show ObjOk X.prog X.w H s.heap a (.dT kvs) from I.hok a _ ea)
    exact PySem.W.kia_one PySem.W.kitx_dict I.kIn ⟨o, h1, h2.1⟩ e (fun z => nomatch z) h
  | @ins a C dx fs ea cl ha hn htk hm =>
    cases (show u = Value.ref a from rx)
    obtain ⟨mA, O, _⟩ := ins_get I.hok ea
    obtain ⟨od, J, _⟩ := O.look
    exact PySem.W.kia_one (PySem.W.kitx_own (cl.get _) cl.hd ha hn htk hm) I.kIn J e (fun z => nomatch z) h
end
end L2
namespace L2
open PySem PySem.Spec PyProof.Rows
set_option genInjectivity false in
structure Room (k : Nat) (A : Around) : Prop where
  hd : A.handled = none
  dp : A.depth + 3 * k + 5 < recursionLimit
  un : A.units + 16 * k + 200 < cLine
theorem Room.mono {j k : Nat} {A : Around} (r : Room k A) (h : j ≤ k) : Room j A := ⟨r.hd, by have := r.dp; omega, by have := r.un; omega⟩
theorem Room.deeper {k : Nat} {A : Around} (r : Room (k + 1) A) (env : Env) : Room k (A.deeper env) :=
  ⟨r.hd, by have := r.dp; show A.depth + 1 + 3 * k + 5 < _; omega, by have := r.un; show A.units + 3 + 16 * k + 200 < _; omega⟩
theorem make_depth {A : Around} {C : Addr} {us : List Value} {kw : List (Str × Value)} : (A.under (.builtin "type.__call__" ⟨.ref C :: us, kw⟩)).depth = A.depth + 1 := by
  first | rfl | simp [Around.under, Code.weight, Code.isCreation, Code.isGuard, Code.isCaller, Code.frames, Code.isFrame, guardIds]
theorem make_units {A : Around} {C : Addr} {us : List Value} {kw : List (Str × Value)} : (A.under (.builtin "type.__call__" ⟨.ref C :: us, kw⟩)).units = A.units + 1 := by
  first | rfl | simp [Around.under, Code.cUnits, Code.frames, Code.isFrame]
theorem Room.make {k : Nat} {A : Around} (r : Room (k + 1) A) (C : Addr) (us : List Value) (kw : List (Str × Value)) : Room k (A.under (.builtin "type.__call__" ⟨.ref C :: us, kw⟩)) :=
  ⟨r.hd, by have := r.dp; rw [make_depth]; omega, by have := r.un; rw [make_units]; omega⟩
theorem Room.depth {k : Nat} {A : Around} (r : Room k A) : A.depth < recursionLimit := by have := r.dp; omega
theorem Room.units {k : Nat} {A : Around} (r : Room k A) : A.units + 64 < cLine := by have := r.un; omega
theorem Room.units0 {k : Nat} {A : Around} (r : Room k A) : A.units < cLine := by have := r.un; omega
noncomputable def tNil : TA := fun _ H Q => Q [] H
noncomputable def tCons (ta : TE) (tr : TA) : TA := fun σ H Q => ta σ H fun x H1 => tr σ H1 fun xs H2 => Q (x :: xs) H2
section
variable {X : Cx} {e : Expr} {es : List Expr} {te : TE} {t : TA} {pos : Pos}
theorem pa_nil : PA X [] tNil := fun _ _ _ _ H Q I h => Calls.spliced_nil ⟨[], H, I, .nil, h⟩
theorem pa_cons (ha : PE X e te) (hr : PA X es t) (hs : starEach (e :: es) X.env = (false, eval e X.env) :: starEach es X.env := by rfl) : PA X (e :: es) (tCons te t) := by
  intro pos pins s σ H Q I h
  rw [hs]
  show wpAny _ _ (spliced ((false, eval e X.env) :: backTo pos (starEach es X.env))) _ _ s
  refine Calls.spliced_cons (thn (ha pins s σ H _ I h) fun u s1 zPt => ?_)
  obtain ⟨x, H1, I1, r1, q1⟩ := zPt
  exact thn (hr pos pins s1 σ H1 _ I1 q1) fun us s2 ⟨xs, H2, I2, r2, q2⟩ => ⟨x :: xs, H2, I2, .cons r1 r2, q2⟩
noncomputable def tTup (t : TA) : TE := fun σ H Q => t σ H fun xs H1 => xs.length ≤ sizeLine ∧ ∀ p, H1 p = none → Q (.ref p) (upd H1 p (.tup xs))
noncomputable def tLst (t : TA) : TE := fun σ H Q => t σ H fun xs H1 => xs.length ≤ sizeLine ∧ ∀ p, H1 p = none → Q (.ref p) (upd H1 p (.lst xs))
theorem pe_tup {x1} (h : PA X es t) : PE X (.Tuple es x1 pos) (tTup t) := by
  intro pins s σ H Q I hq
  refine wpAny_Tuple_spliced (thn (h pos pins s σ H _ I hq) fun us s1 ⟨xs, H1, I1, r, z, q⟩ => ⟨by rw [← r.length]; exact z, ?_⟩)
  have hf : H1 s1.heap.objs.size = none := I1.hok.fresh (Nat.le_refl _)
  refine ⟨.ref s1.heap.objs.size, upd H1 s1.heap.objs.size (.tup xs), I1.laid (t' := s1.toks) (fun b u e => Heap.get?_push_of_some _ e) (Nat.le_refl _) ?_, rfl, q _ hf⟩
  exact ⟨z, us, r, ⟨_, Heap.get?_push_size _ rfl, rfl, _, rfl⟩⟩
theorem pe_lst (h : PA X es t) : PE X (.List es pos) (tLst t) := by
  intro pins s σ H Q I hq
  refine wpAny_List_spliced (thn (h pos pins s σ H _ I hq) fun us s1 ⟨xs, H1, I1, r, z, q⟩ => ⟨by rw [← r.length]; exact z, ?_⟩)
  have hf : H1 s1.heap.objs.size = none := I1.hok.fresh (Nat.le_refl _)
  refine ⟨.ref s1.heap.objs.size, upd H1 s1.heap.objs.size (.lst xs), I1.laid (t' := s1.toks) (fun b u e => Heap.get?_push_of_some _ e) (Nat.le_refl _) ?_, rfl, q _ hf⟩
  exact ⟨z, us, 0, r, Heap.get?_push_size _ rfl⟩
end
noncomputable abbrev Sp := List V → Hp → VK → XK → Prop
noncomputable abbrev CXT := List Env → Hp → Shared → XK → Value → Shared → Prop
set_option genInjectivity false in
structure Env0 (P : Program) (w : World) (K : PySem.W.Frag) (mg : Str → Option Value) (base : Heap) (A : Around) (outer : List Env) (s : Shared) (H : Hp) : Prop where
  frames : A.frames = some outer
  mod : Mod K mg base
  bs : ∀ b o, base.get? b = some o → s.heap.get? b = some o ∧ H b = none
  bsz : base.objs.size ≤ s.heap.objs.size
  funs : s.heap.FunFrames base outer
  frf : ∀ b ∈ frs outer, H b = none
  hok : HOk P w H s.heap
  bare : AllBare s.gens
noncomputable def CE (outer : List Env) (P : Program) (w : World) (H : Hp) (s : Shared) (Q : VK) (u : Value) (s' : Shared) : Prop :=
  ∃ v H', s'.os = s.os ∧ AllBare s'.gens ∧ Un (frs outer) [] H H' s.heap s'.heap ∧ HOk P w H' s'.heap ∧ RelV v u ∧ Q v H'
noncomputable def CR (CX : CXT) (outer : List Env) (P : Program) (w : World) (H : Hp) (s : Shared) (Q : VK) (E : XK) (r : Result) (s' : Shared) : Prop :=
  match r with
  | .ok (.ret u) => CE outer P w H s Q u s'
  | .ok _ => False
  | .error e => CX outer H s E e s'
set_option genInjectivity false in
structure FnOk (P : Program) (w : World) (K : PySem.W.Frag) (mg : Str → Option Value) (base : Heap) (CX : CXT) (k : Nat) (f : Addr) (fd : FuncData) (ps : List Str) (sp : Sp) : Prop where
  len : ∀ vs H Q E, sp vs H Q E → vs.length = ps.length
  run : ∀ (A : Around) (outer : List Env) (s : Shared) (H : Hp) (args : Args) (us : List Value) (vs : List V) (Q : VK) (E : XK), Room k A → Env0 P w K mg base A outer s H → BindsTo s fd args (ps.zip us) → Vals vs us → sp vs H Q E →
    codeAny (model P w) A (.call (.ref f) args) (CR CX outer P w H s Q E) s
theorem Env0.make {P : Program} {w : World} {K : PySem.W.Frag} {mg : Str → Option Value} {base : Heap} {A : Around} {outer : List Env} {s : Shared} {H : Hp} (e : Env0 P w K mg base A outer s H) (C : Addr) (us : List Value) (kw : List (Str × Value)) :
    Env0 P w K mg base (A.under (.builtin "type.__call__" ⟨.ref C :: us, kw⟩)) outer s H := ⟨by first | exact e.frames | (simpa [Around.under, Code.envs, Code.isFrame, pushEnvs] using e.frames), e.mod, e.bs, e.bsz, e.funs, e.frf, e.hok, e.bare⟩
section
variable {X : Cx} {pins : List (Addr × Obj)} {σ : St} {H : Hp} {s s' : Shared}
theorem Inv.env0 (I : Inv X pins σ H s) : Env0 X.prog X.w X.K X.mg X.base X.A X.stack s H :=
  ⟨I.ok.frames, I.ok.mod, I.bs, Nat.le_trans I.ok.bsz I.sz, I.stack, I.stkFree, I.hok, I.bare⟩
theorem Inv.after {Q : VK} {u : Value} (I : Inv X pins σ H s) (h : CE X.stack X.prog X.w H s Q u s') : EP X pins σ Q u s' := by
  obtain ⟨v, H', os, bare, un, hok, r, q⟩ := h
  obtain ⟨hh, g, d, t, os'⟩ := s'
  obtain rfl : os' = s.os := os
  exact ⟨v, H', I.call (h' := hh) (g' := g) (d' := d) (t' := t) (ch := []) un hok bare (fun b z => absurd z (by simp)), r, q⟩
end
noncomputable def tCall (sp : Sp) (dvs : List V) (E : XK) (t : TA) : TE := fun σ H Q => t σ H fun vs H1 => sp (vs ++ dvs) H1 Q E
noncomputable def tMeth (C : Addr) (m : Str) (sp : Sp) (dvs : List V) (E : XK) (ta : TE) (t : TA) : TE := fun σ H Q => ta σ H fun x H1 => ∃ a dx fs, x = .ref a ∧ H1 a = some (.ins C dx fs) ∧ fs.lookup m = none ∧
  t σ H1 fun vs H2 => sp (x :: (vs ++ dvs)) H2 Q E
noncomputable def tMake (C : Addr) (sp : Sp) (dvs : List V) (E : XK) (t : TA) : TE := fun σ H Q => t σ H fun vs H1 => ∀ x dx, H1 x = none → H1 dx = none → dx ≠ x →
  sp (.ref x :: (vs ++ dvs)) (upd (upd H1 dx (.own x)) x (.ins C dx [])) (fun v H2 => v = .non ∧ Q (.ref x) H2) E
noncomputable def Binds (K : PySem.W.Frag) (fd : FuncData) (ps : List Str) (ds : List Value) : Prop :=
  ∀ (s : Shared) (us : List Value), K.In s.heap → (us ++ ds).length = ps.length → BindsTo s fd ⟨us, []⟩ (ps.zip (us ++ ds))
theorem Binds.all {K : PySem.W.Frag} {fd : FuncData} {ps : List Str} (h : ∀ us : List Value, us.length = ps.length → bindArgs fd ⟨us, []⟩ = pure (ps.zip us)) : Binds K fd ps [] := fun s us _ hl => by
  rw [List.append_nil] at hl ⊢
  exact .of_eq (h us hl)
noncomputable def Passes (CX : CXT) (X : Cx) (E : XK) : Prop := ∀ (pins : List (Addr × Obj)) (σ : St) (H : Hp) (s : Shared) (e : Value) (s' : Shared), Inv X pins σ H s → CX X.stack H s E e s' → X.xe e s'
section
variable {X : Cx} {CX : CXT} {k : Nat} {f C : Addr} {fd : FuncData} {ps : List Str} {sp : Sp} {dvs : List V} {ds : List Value} {E : XK} {x m : Str} {p pos apos : Pos} {e o : Expr} {es : List Expr} {ta : TE} {t : TA}
theorem run_fn {pins : List (Addr × Obj)} {σ : St} {H : Hp} {s : Shared} {Q : VK} {us : List Value} {vs : List V} (F : FnOk X.prog X.w X.K X.mg X.base CX k f fd ps sp) (hr : Room k X.A) (hb : Binds X.K fd ps ds) (hd : Vals dvs ds) (hx : Passes CX X E)
    (I : Inv X pins σ H s) (r : Vals vs us) (h : sp (vs ++ dvs) H Q E) : wpAny (model X.prog X.w) X.A (call (.ref f) us) (EP X pins σ Q) X.xe s := by
  have r2 : Vals (vs ++ dvs) (us ++ ds) := r.append hd
  have hl : (us ++ ds).length = ps.length := by rw [← r2.length]; exact F.len _ _ _ _ h
  refine wpAny_call (codeAny_mono (F.run X.A X.stack s H ⟨us, []⟩ (us ++ ds) (vs ++ dvs) Q E hr I.env0 (hb s us I.kIn hl) r2 h) fun r s' hq => ?_)
  cases r with
  | error e => exact hx pins σ H s e s' I hq
  | ok fl =>
    cases fl with
    | ret u => exact I.after hq
    | next => exact False.elim hq
    | brk => exact False.elim hq
    | cont => exact False.elim hq
theorem pe_call (F : FnOk X.prog X.w X.K X.mg X.base CX k f fd ps sp) (hr : Room k X.A) (hg : Gl X x) (hm : X.mg x = some (.ref f)) (hk : PySem.W.keepIn X.K (.ref f) = true) (hb : Binds X.K fd ps ds) (hd : Vals dvs ds) (hx : Passes CX X E)
    (ha : PA X (e :: es) t) (hdb : (x == ("__debug__" : Str)) = false := by decide) (he : starEach (e :: es) X.env = (false, eval e X.env) :: starEach es X.env := by rfl) (hpl : (backTo pos (starEach es X.env)).any (·.1) = false := by rfl) :
    PE X (.Call (.Name x p) (e :: es) [] pos) (tCall sp dvs E t) := by
  intro pins s σ H Q I h
  refine wpAny_Call_Name_kw (ld_glob I hg hm ?_ hdb)
  refine PySem.W.callWith_K (h₀ := X.base) I.ok.mod.kin hk (thn (ha pos pins s σ H _ I h) fun us s1 ⟨vs, H1, I1, r, q⟩ => ⟨I1.kIn, ?_⟩) he hpl
  exact run_fn F hr hb hd hx I1 r q
theorem pe_meth {pl : Sem Bool} (he : PE X o ta) (c : Cls X.K C) (hm : Meth X.K C m f) (F : FnOk X.prog X.w X.K X.mg X.base CX k f fd ps sp) (hr : Room k X.A) (hb : Binds X.K fd ps ds) (hd : Vals dvs ds) (hx : Passes CX X E) (ha : PA X (e :: es) t)
    (hst : starEach (e :: es) X.env = (false, eval e X.env) :: starEach es X.env := by rfl) (hpl : (backTo pos (starEach es X.env)).any (·.1) = false := by rfl)
    (ht : eval (.Call (.Attribute o m apos) (e :: es) [] pos) X.env = (do
      let ov ← eval o X.env
      standAt apos.atName
      let (f, first) ← holding [ov] (getMethod ov m pl)
      callWith pos f first (backTo pos (starEach (e :: es) X.env)) (backToKw pos (keywordEach [] X.env))) := by rfl) :
    PE X (.Call (.Attribute o m apos) (e :: es) [] pos) (tMeth C m sp dvs E ta t) := by
  intro pins s σ H Q I h
  refine PySem.W.methodCall_KW (pl := pl) (thn (he pins s σ H _ I h) fun u s1 zPt => ?_) ht
  obtain ⟨x, H1, I1, rx, a, dx, fs, ex, ea, l, q⟩ := zPt
  subst ex
  obtain rfl : u = Value.ref a := rx
  refine getmeth_ok I1 ea c hm l ?_
  refine PySem.W.callWith_K (first := [.ref a]) (h₀ := X.base) I.ok.mod.kin hm.kp (thn (ha pos pins s1 σ H1 _ I1 q) fun us s2 ⟨vs, H2, I2, r, q2⟩ => ⟨I2.kIn, ?_⟩) hst hpl
  exact run_fn (us := .ref a :: us) (vs := .ref a :: vs) F hr hb hd hx I2 (.cons rfl r) q2
theorem pe_meth0 {pl : Sem Bool} (he : PE X o ta) (c : Cls X.K C) (hm : Meth X.K C m f) (F : FnOk X.prog X.w X.K X.mg X.base CX k f fd ps sp) (hr : Room k X.A) (hb : Binds X.K fd ps ds) (hd : Vals dvs ds) (hx : Passes CX X E)
    (ht : eval (.Call (.Attribute o m apos) [] [] pos) X.env = (do
      let ov ← eval o X.env
      standAt apos.atName
      let (f, first) ← holding [ov] (getMethod ov m pl)
      callWith pos f first (backTo pos (starEach [] X.env)) (backToKw pos (keywordEach [] X.env))) := by rfl) :
    PE X (.Call (.Attribute o m apos) [] [] pos) (tMeth C m sp dvs E ta tNil) := by
  intro pins s σ H Q I h
  refine PySem.W.methodCall_KW (pl := pl) (thn (he pins s σ H _ I h) fun u s1 zPt => ?_) ht
  obtain ⟨x, H1, I1, rx, a, dx, fs, ex, ea, l, q⟩ := zPt
  subst ex
  obtain rfl : u = Value.ref a := rx
  refine getmeth_ok I1 ea c hm l ?_
  exact PySem.W.callWith_K0 (first := [.ref a]) I1.kIn hm.kp (run_fn (us := [.ref a]) (vs := [.ref a]) F hr hb hd hx I1 (.cons rfl .nil) q)
set_option genInjectivity false in
structure Mk (K : PySem.W.Frag) (C f : Addr) : Prop where
  makes : PySem.W.makesIn K C = true
  init : PySem.W.findIn K (.ref C) "__init__" = some (some (.ref f))
  fn : PySem.W.isFn K (.ref f) = true
  kp : PySem.W.keepIn K (.ref C) = true
theorem run_make {pins : List (Addr × Obj)} {σ : St} {H : Hp} {s : Shared} {Q : VK} {us : List Value} {vs : List V} (M : Mk X.K C f) (F : FnOk X.prog X.w X.K X.mg X.base CX k f fd ps sp) (hr : Room (k + 1) X.A) (hb : Binds X.K fd ps ds) (hd : Vals dvs ds)
    (hx : Passes CX X E) (I : Inv X pins σ H s) (r : Vals vs us)
    (h : ∀ x dx, H x = none → H dx = none → dx ≠ x → sp (.ref x :: (vs ++ dvs)) (upd (upd H dx (.own x)) x (.ins C dx [])) (fun v H2 => v = .non ∧ Q (.ref x) H2) E) :
    wpAny (model X.prog X.w) X.A (call (.ref C) us) (EP X pins σ Q) X.xe s := by
  have hq := h (s.heap.objs.size + 1) s.heap.objs.size (I.hok.fresh (Nat.le_succ _)) (I.hok.fresh (Nat.le_refl _)) (Nat.ne_of_lt (Nat.lt_succ_self _))
  have I2 := Inv.made (C := C) I
  have r2 : Vals (V.ref (s.heap.objs.size + 1) :: (vs ++ dvs)) (Value.ref (s.heap.objs.size + 1) :: (us ++ ds)) := .cons rfl (r.append hd)
  have hl : (Value.ref (s.heap.objs.size + 1) :: us ++ ds).length = ps.length := by
    have e := r2.length
    rw [F.len _ _ _ _ hq] at e
    exact e.symm
  refine wpAny_call (make_map (f := f) I.kIn M.makes M.init (beq_iff_eq.mp M.fn) (codeAny_mono (F.run _ X.stack _ _ ⟨Value.ref (s.heap.objs.size + 1) :: us, []⟩ (Value.ref (s.heap.objs.size + 1) :: (us ++ ds)) _ _ E (hr.make C us [])
    (I2.env0.make C us []) (hb _ (Value.ref (s.heap.objs.size + 1) :: us) I2.kIn hl) r2 hq) fun r s' hq' => ?_))
  cases r with
  | error e => exact hx pins σ _ _ e s' I2 hq'
  | ok fl =>
    cases fl with
    | ret u =>
      obtain ⟨v, H', I3, rv, ev, q3⟩ := I2.after hq'
      subst ev
      exact ⟨rv, ⟨V.ref (s.heap.objs.size + 1), H', I3, rfl, q3⟩⟩
    | next => exact False.elim hq'
    | brk => exact False.elim hq'
    | cont => exact False.elim hq'
theorem pe_make (M : Mk X.K C f) (F : FnOk X.prog X.w X.K X.mg X.base CX k f fd ps sp) (hr : Room (k + 1) X.A) (hg : Gl X x) (hm : X.mg x = some (.ref C)) (hb : Binds X.K fd ps ds) (hd : Vals dvs ds) (hx : Passes CX X E)
    (ha : PA X (e :: es) t) (hdb : (x == ("__debug__" : Str)) = false := by decide) (he : starEach (e :: es) X.env = (false, eval e X.env) :: starEach es X.env := by rfl) (hpl : (backTo pos (starEach es X.env)).any (·.1) = false := by rfl) :
    PE X (.Call (.Name x p) (e :: es) [] pos) (tMake C sp dvs E t) := by
  intro pins s σ H Q I h
  refine wpAny_Call_Name_kw (ld_glob I hg hm ?_ hdb)
  refine PySem.W.callWith_K (h₀ := X.base) I.ok.mod.kin M.kp (thn (ha pos pins s σ H _ I h) fun us s1 ⟨vs, H1, I1, r, q⟩ => ⟨I1.kIn, ?_⟩) he hpl
  exact run_make M F hr hb hd hx I1 r q
end
section
variable {X : Cx} {CX : CXT} {k : Nat} {f C : Addr} {fd : FuncData} {ps ks : List Str} {sp : Sp} {E : XK} {x m : Str} {p pos apos kpos : Pos} {e o : Expr} {es : List Expr} {kws : List Keyword} {te ta : TE} {t tk : TA} {nm : Option Str}
variable {g : List Value → List Value → List Value} {gV : List V → List V → List V}
end
set_option genInjectivity false in
structure FnScope (N P : List Str) (sc : Scope) : Prop where
  kind : sc.kind = .function
  co : sc.isCoroutine = false
  gen : sc.isGenerator = false
  nd : N.Nodup
  pre : N.take P.length = P
  par : ∀ x ∈ P, sc.names.lookup x = some .local ∨ sc.names.lookup x = some .cell
  nofree : ∀ y ∈ sc.names, y.2 ≠ .free
theorem bindL_out {kindOf : Str → Option NameKind} {x : Str} : ∀ {binds : List (Str × Value)} {m : Str → Option Value}, (∀ v, (x, v) ∉ binds) → bindL kindOf binds m x = m x
  | [], _, _ => rfl
  | (n, v) :: r, m, h => by
    unfold bindL
    rw [bindL_out fun w hw => h w (List.mem_cons_of_mem _ hw)]
    split
    · have : x ≠ n := by rintro rfl; exact h v List.mem_cons_self
      simp [this]
    · rfl
theorem bindC_out {kindOf : Str → Option NameKind} {x : Str} : ∀ {binds : List (Str × Value)} {m : Str → Option Value}, (∀ v, (x, v) ∉ binds) → bindC kindOf binds m x = m x
  | [], _, _ => rfl
  | (n, v) :: r, m, h => by
    unfold bindC
    rw [bindC_out fun w hw => h w (List.mem_cons_of_mem _ hw)]
    split
    · rfl
    · have : x ≠ n := by rintro rfl; exact h v List.mem_cons_self
      simp [this]
theorem bindL_get {kindOf : Str → Option NameKind} {x : Str} {v : Value} : ∀ {P : List Str} {vs : List Value} {i : Nat} {m : Str → Option Value}, P.Nodup → P[i]? = some x → vs[i]? = some v → kindOf x = some .local →
    bindL kindOf (P.zip vs) m x = some v
  | [], _, _, _, _, h, _, _ => by simp at h
  | _ :: _, [], _, _, _, _, h, _ => by simp at h
  | p :: P, w :: vs, 0, m, nd, h1, h2, hk => by
    simp at h1 h2; subst h1; subst h2
    show bindL kindOf ((p, w) :: P.zip vs) m p = _
    unfold bindL
    rw [bindL_out fun v hv => (List.nodup_cons.mp nd).1 (List.of_mem_zip hv).1, if_pos hk]
    simp
  | p :: P, w :: vs, i + 1, m, nd, h1, h2, hk => by
    show bindL kindOf ((p, w) :: P.zip vs) m x = _
    unfold bindL
    exact bindL_get (i := i) (List.nodup_cons.mp nd).2 (by simpa using h1) (by simpa using h2) hk
theorem bindC_get {kindOf : Str → Option NameKind} {x : Str} {v : Value} : ∀ {P : List Str} {vs : List Value} {i : Nat} {m : Str → Option Value}, P.Nodup → P[i]? = some x → vs[i]? = some v → kindOf x ≠ some .local →
    bindC kindOf (P.zip vs) m x = some v
  | [], _, _, _, _, h, _, _ => by simp at h
  | _ :: _, [], _, _, _, _, h, _ => by simp at h
  | p :: P, w :: vs, 0, m, nd, h1, h2, hk => by
    simp at h1 h2; subst h1; subst h2
    show bindC kindOf ((p, w) :: P.zip vs) m p = _
    unfold bindC
    rw [bindC_out fun v hv => (List.nodup_cons.mp nd).1 (List.of_mem_zip hv).1, if_neg hk]
    simp
  | p :: P, w :: vs, i + 1, m, nd, h1, h2, hk => by
    show bindC kindOf ((p, w) :: P.zip vs) m x = _
    unfold bindC
    exact bindC_get (i := i) (List.nodup_cons.mp nd).2 (by simpa using h1) (by simpa using h2) hk
noncomputable def start (N : List Str) (vs : List V) : St := vs.map some ++ List.replicate (N.length - vs.length) none
noncomputable def cxOf (CX : CXT) (P : Program) (w : World) (K : PySem.W.Frag) (mg : Str → Option Value) (base : Heap) (N : List Str) (qual : Str) (scope : Scope) (f : Addr) (cd : Value) (A : Around) (outer : List Env) (s : Shared) (H : Hp) (E : XK) : Cx where
  prog := P
  w := w
  K := K
  mg := mg
  base := base
  A := A.deeper (envOfC qual scope s.heap.objs.size f cd)
  N := N
  s₀ := s
  H₀ := H
  env := envOfC qual scope s.heap.objs.size f cd
  outer := outer
  stack := envOfC qual scope s.heap.objs.size f cd :: outer
  ex := []
  calm := true
  fn := fun _ => true
  pn := []
  xe := fun e s' => wpAny (model P w) (A.deeper (envOfC qual scope s.heap.objs.size f cd)) (leaving (envOfC qual scope s.heap.objs.size f cd) e) (fun _ s'' => CX outer H s E e s'') (fun e' s'' => CX outer H s E e' s'') s'
theorem cell_has {sc : Scope} {n : Nat} {x : Str} (h : sc.names.lookup x = some .cell) : ∃ c, (cellsFrom n sc.names []).lookup x = some c := by
  have q := PySem.W.cellsFrom_some sc.names n [] (.inl h)
  exact Option.isSome_iff_exists.mp q
theorem inv_start {CX : CXT} {P : Program} {w : World} {K : PySem.W.Frag} {mg : Str → Option Value} {base : Heap} {N ps : List Str} {qual : Str} {scope : Scope} {f : Addr} {cd : Value} {A : Around} {outer : List Env} {s s1 : Shared} {H : Hp} {E : XK} {us : List Value} {vs : List V}
    (S : FnScope N ps scope) (hd : A.handled = none) (e0 : Env0 P w K mg base A outer s H) (hl : vs.length = ps.length) (r : Vals vs us)
    (x : InCallC s s.heap.objs.size (bindL (envOfC qual scope s.heap.objs.size f cd).kindOf (ps.zip us) fun _ => none) (cellsFrom (s.heap.objs.size + 1) scope.names []) (bindC (envOfC qual scope s.heap.objs.size f cd).kindOf (ps.zip us) fun _ => none) s1) :
    Inv (cxOf CX P w K mg base N qual scope f cd A outer s H E) [] (start N vs) H s1 := by
  have hpl : ps.length ≤ N.length := by have := congrArg List.length S.pre; rw [List.length_take] at this; omega
  obtain ⟨h1, tk, rfl, hk⟩ := x.done
  have noA : ∀ b : Addr, b ∉ (cxOf CX P w K mg base N qual scope f cd A outer s H E).ex := fun b z => absurd (show b ∈ ([] : List Addr) from z) (by simp)
  refine ⟨⟨e0.mod, S.kind, rfl, rfl, Nat.le_refl _, fun y z c h1 h2 => ?_, fun y hy => ?_, fun y c _ h => ?_, fun _ => hd, Around.frames_deeper e0.frames, .inr ⟨rfl, rfl⟩, fun b z => absurd z (noA b), e0.bs, e0.bsz, fun b _ _ => noA b, fun b z => absurd z (noA b), e0.funs, e0.frf⟩,
    rfl, e0.bare, Un.kept hk, ⟨_, x.toInCall.ns, fun i y v h1 h2 h3 => ?_⟩, fun y c h => ⟨_, x.cell y c h⟩, e0.hok.fresh (Nat.le_refl _), fun y c h => ?_, fun p hp => absurd (show p ∈ ([] : List (Addr × Obj)) from hp) (by simp), e0.hok.kept hk, ?_⟩
  · exact name_of_addr x.apart (PySem.mem_of_lookup h1) (PySem.mem_of_lookup h2)
  · have hy : scope.names.lookup y = some .cell ∨ scope.names.lookup y = some .free := hy
    rcases hy with hy | hy
    · exact cell_has hy
    · exact absurd rfl (S.nofree _ (PySem.mem_of_lookup hy))
  · exact Nat.le_of_lt (x.above y c (PySem.mem_of_lookup h))
  · have hi : i < vs.length := by
      unfold start at h2
      by_cases hi : i < vs.length
      · exact hi
      · rw [List.getElem?_append_right (by simpa using hi)] at h2
        rw [List.getElem?_replicate] at h2
        split at h2 <;> cases h2
    have ha : vs[i]? = some v := by
      unfold start at h2
      rw [List.getElem?_append_left (by simpa using hi), List.getElem?_map] at h2
      cases e : vs[i]? with
      | none => rw [e] at h2; cases h2
      | some a => rw [e] at h2; cases h2; rfl
    obtain ⟨u, hu, rv⟩ := r.get ha
    have hp : ps[i]? = some y := by
      rw [← S.pre, List.getElem?_take_of_lt (by (first | assumption | decide | omega))]; exact h1
    have ndP : ps.Nodup := by rw [← S.pre]; exact S.nd.sublist (List.take_sublist _ _)
    refine ⟨u, rv, ?_⟩
    rcases S.par y (List.mem_of_getElem? hp) with k | k
    · exact .inl ⟨k, bindL_get ndP hp hu k⟩
    · obtain ⟨c, e⟩ := cell_has (n := s.heap.objs.size + 1) k
      refine .inr ⟨.inl k, c, e, ?_⟩
      have q := x.cell y c e
      rw [bindC_get ndP hp hu (by show scope.names.lookup y ≠ _; rw [k]; decide)] at q
      exact q
  · exact e0.hok.fresh (Nat.le_of_lt (x.above y c (PySem.mem_of_lookup h)))
  · unfold start
    show _ = N.length
    rw [List.length_append, List.length_map, List.length_replicate]
    first | assumption | decide | omega
theorem fn_of {CX : CXT} {P : Program} {w : World} {K : PySem.W.Frag} {mg : Str → Option Value} {base : Heap} {k : Nat} {f : Addr} {name qual : Str} {params : Arguments} {body : List Stmt} {scope : Scope} {dV kV doc pm cdv ct oc : Value} {an od : Option Addr}
    {osl : Array (Option Value)} {N ps : List Str} {sp : Sp} (lk : K.lookup f = some ⟨oc, od, .func (PySem.W.fnOf name qual params body scope dV kV doc pm an cdv ct), osl⟩) (hcd : PySem.W.codeIn K cdv qual = true) (S : FnScope N ps scope)
    (len : ∀ vs H Q E, sp vs H Q E → vs.length = ps.length)
    (hbody : ∀ (A : Around) (outer : List Env) (s : Shared) (H : Hp) (vs : List V) (Q : VK) (E : XK), Room k (A.deeper (envOfC qual scope s.heap.objs.size f cdv)) → sp vs H Q E →
      ∃ t, PSs (cxOf CX P w K mg base N qual scope f cdv A outer s H E) body t ∧ t { nx := fun _ H' => Q .non H', rt := Q } (start N vs) H) :
    FnOk P w K mg base CX (k + 1) f (PySem.W.fnOf name qual params body scope dV kV doc pm an cdv ct) ps sp := by
  refine ⟨len, fun A outer s H args us vs Q E hr e0 hb r hsp => ?_⟩
  have hl := len _ _ _ _ hsp
  have KX : K.In s.heap := e0.mod.kin.keeps fun b o e => (e0.bs b o e).1
  have lim : s.heap.NoLimit := e0.mod.nolimit.keeps fun b o e => (e0.bs b o e).1
  have hkind : ∀ y ∈ ps.zip us, scope.names.lookup y.1 = some .local ∨ (scope.names.lookup y.1 = some .cell ∧ ((cellsFrom (s.heap.objs.size + 1) scope.names []).lookup y.1).isSome = true) := fun ⟨n, v⟩ hy => by
    rcases S.par n (List.of_mem_zip hy).1 with q | q
    · exact .inl q
    · exact .inr ⟨q, PySem.W.cellsFrom_some _ _ _ (.inl q)⟩
  refine codeAny_call_function hr.depth (KX _ _ lk) rfl S.co S.gen rfl (PySem.W.codeRec_of KX hcd) (hb _ _ _ _ ?_)
  refine wpAny_newFunctionEnv_cells S.kind hkind fun env he s1 x => ?_
  subst he
  refine ⟨lim.keeps x.toInCall.keep, codeAny_func ?_⟩
  obtain ⟨t, ht, hq⟩ := hbody A outer s H vs Q E (hr.deeper _) hsp
  have I : Inv (cxOf CX P w K mg base N qual scope f cdv A outer s H E) [] (start N vs) H s1 := inv_start S hr.hd e0 hl r x
  refine wpAny_mono (ht [] s1 (start N vs) H _ I hq) (fun fl s' hs => ?_) fun e s' hs => hs
  have fin : ∀ {σ' : St} {H' : Hp} {v : V} {u : Value}, Inv (cxOf CX P w K mg base N qual scope f cdv A outer s H E) [] σ' H' s' → RelV v u → Q v H' → CE outer P w H s Q u s' :=
    fun {σ' H' v u} J rv q => ⟨v, H', J.os, J.bare, J.base, J.hok, rv, q⟩
  cases fl with
  | ret u =>
    obtain ⟨v, σ', H', J, rv, q⟩ := hs
    exact fin J rv q
  | next =>
    obtain ⟨σ', H', J, q⟩ := hs
    exact fin (v := V.non) (u := Value.none) J rfl q
  | brk =>
    obtain ⟨_, _, _, q⟩ := hs
    exact False.elim q
  | cont =>
    obtain ⟨_, _, _, q⟩ := hs
    exact False.elim q
end L2
namespace L2
open PySem PySem.Spec PyProof.Rows
section
variable {X : Cx} {x : Str} {p pos : Pos} {e : Expr} {es : List Expr} {t : TA} {id T : String} {r : List V → Hp → VK → Prop}
noncomputable def tCB (r : List V → Hp → VK → Prop) (t : TA) : TE := fun σ H Q => t σ H fun vs H1 => r vs H1 Q
theorem pe_callB (hc : CallR X (.builtin id) r) (hg : Gl X x) (hm : X.mg x = none) (hv : bootBuiltins x = some (.builtin id)) (ha : PA X (e :: es) t) (hn : x ≠ "__name__" := by decide) (hdb : (x == ("__debug__" : Str)) = false := by decide)
    (he : starEach (e :: es) X.env = (false, eval e X.env) :: starEach es X.env := by rfl) (hpl : (backTo pos (starEach es X.env)).any (·.1) = false := by rfl) : PE X (.Call (.Name x p) (e :: es) [] pos) (tCB r t) := by
  intro pins s σ H Q I h
  refine wpAny_Call_Name_kw (ld_blt I hg hm hv ?_ hn hdb)
  exact PyProof.Rows.callWith_builtin1 (thn (ha pos pins s σ H _ I h) fun us s1 ⟨vs, H1, I1, r1, q1⟩ => hc pins s1 σ H1 vs us Q I1 r1 q1) he hpl
theorem pe_callTy (hc : CallR X (.type T) r) (hg : Gl X x) (hm : X.mg x = none) (hv : bootBuiltins x = some (.type T)) (ha : PA X (e :: es) t) (hn : x ≠ "__name__" := by decide) (hdb : (x == ("__debug__" : Str)) = false := by decide)
    (he : starEach (e :: es) X.env = (false, eval e X.env) :: starEach es X.env := by rfl) (hpl : (backTo pos (starEach es X.env)).any (·.1) = false := by rfl) : PE X (.Call (.Name x p) (e :: es) [] pos) (tCB r t) := by
  intro pins s σ H Q I h
  refine wpAny_Call_Name_kw (ld_blt I hg hm hv ?_ hn hdb)
  exact PyProof.Rows.callWith_type1 (thn (ha pos pins s σ H _ I h) fun us s1 ⟨vs, H1, I1, r1, q1⟩ => hc pins s1 σ H1 vs us Q I1 r1 q1) he hpl
end
end L2
namespace HT
open PySem PyProof.Rows
section
open PySem.SeqAt
open PySem.AutoSeq1 (wpAny_loadPart')
open PySem.MeetsSeq PySem.MeetsSeq2 PySem.MeetsSeq3
end
section
variable {prog : Program} {w : World} {A : Around} {E : Value → Shared → Prop} {s : Shared}
noncomputable def sIx (n d : Nat) : Option Int → Nat
  | none => d
  | some v => if v < 0 then (v + (n : Int)).toNat else min v.toNat n
end
end HT
namespace L2
open PySem PySem.Spec PyProof.Rows
noncomputable abbrev TO := St → Hp → (Option Int → Hp → Prop) → Prop
noncomputable def PO (X : Cx) (e : Option Expr) (t : TO) : Prop :=
  ∀ (pins : List (Addr × Obj)) (s : Shared) (σ : St) (H : Hp) (Q : Option Int → Hp → Prop), Inv X pins σ H s → t σ H Q →
    wpAny (model X.prog X.w) X.A (evalPart e X.env) (fun u s' => ∃ o H', Inv X pins σ H' s' ∧ IsPart u o ∧ Q o H') X.xe s
noncomputable def tNoPart : TO := fun _ H Q => Q none H
noncomputable def tPart (t : TE) : TO := fun σ H Q => t σ H fun x H1 => ∃ i, x = .int i ∧ Q (some i) H1
theorem intsAre_of {ns : List Int} : ∀ {us : List Value}, Vals (ns.map V.int) us → IntsAre us ns := by
  induction ns with
  | nil => intro us r; rw [List.map_nil] at r; cases r; exact .nil
  | cons n ns ih =>
    intro us r
    rw [List.map_cons] at r
    cases r with
    | cons r1 r2 =>
      obtain ⟨t, e⟩ := r1
      subst e
      exact .cons n t (ih r2)
section
variable {X : Cx} {e : Expr} {te : TE} {lo hi : Option Expr} {tl th : TO} {pos p2 : Pos}
theorem po_none : PO X none tNoPart := by
  intro pins s σ H Q I h
  rw [evalPart_none]
  exact wpAny_pure ⟨none, H, I, .none, h⟩
theorem po_some (h : PE X e te) : PO X (some e) (tPart te) := by
  intro pins s σ H Q I hw
  rw [evalPart_some]
  refine thn (h pins s σ H _ I hw) fun u s1 zPt => ?_
  obtain ⟨x, H1, I1, r1, q1⟩ := zPt
  obtain ⟨i, rfl, q⟩ := q1
  obtain ⟨t, rfl⟩ := r1
  exact ⟨some i, H1, I1, .int i t, q⟩
noncomputable def SlR (X : Cx) (r : V → Option Int → Option Int → Hp → VK → Prop) : Prop :=
  ∀ (pins : List (Addr × Obj)) (s : Shared) (σ : St) (H : Hp) (x : V) (v vl vu : Value) (lo hi : Option Int) (sl : Addr) (Q : VK), Inv X pins σ H s → RelV x v → s.heap.IsSliceOf sl vl vu .none → IsPart vl lo → IsPart vu hi → r x lo hi H Q →
    ∃ T id, typeLookup (.type T) "__getitem__" = pure (some (.builtin id)) ∧ s.TypeIs v T ∧ wpAny (model X.prog X.w) X.A (getItem v (.ref sl)) (EP X pins σ Q) X.xe s
noncomputable def tSl (r : V → Option Int → Option Int → Hp → VK → Prop) (te : TE) (tl th : TO) : TE := fun σ H Q => te σ H fun x H1 => tl σ H1 fun l H2 => th σ H2 fun u H3 => r x l u H3 Q
theorem pe_slice {r : V → Option Int → Option Int → Hp → VK → Prop} (hr : SlR X r) (he : PE X e te) (hl : PO X lo tl) (hu : PO X hi th) : PE X (.Subscript e (.Slice lo hi none p2) pos) (tSl r te tl th) := by
  intro pins s σ H Q I h
  refine Subscript_ (thn (he pins s σ H _ I h) fun v s1 zPt => ?_)
  obtain ⟨x, H1, I1, r1, q1⟩ := zPt
  refine wpAny_Slice (thn (hl pins s1 σ H1 _ I1 q1) fun vl s2 ⟨l, H2, I2, pl, q2⟩ => thn (hu pins s2 σ H2 _ I2 q2) fun vu s3 zPt => ?_)
  obtain ⟨u, H3, I3, pu, q3⟩ := zPt
  rw [evalPart_none]
  refine wpAny_pure ?_
  have I4 : Inv X pins σ H3 { s3 with heap := s3.heap.push { cls := .type "slice", data := .fields #[vl, vu, .none] } } := I3.kept (t' := s3.toks) fun b ob q => Heap.get?_push_of_some _ q
  obtain ⟨T, id, hT, ht, hg⟩ := hr pins { s3 with heap := s3.heap.push { cls := .type "slice", data := .fields #[vl, vu, .none] } } σ H3 x v vl vu l u s3.heap.objs.size Q I4 r1 (Heap.IsSliceOf.new ..) pl pu q3
  show wpAny (model X.prog X.w) X.A (subscriptTail e (.Slice lo hi none p2) v (.ref s3.heap.objs.size)) (EP X pins σ Q) X.xe { s3 with heap := s3.heap.push { cls := .type "slice", data := .fields #[vl, vu, .none] } }
  exact tail_any (ops := [.ref s3.heap.objs.size, v]) ht hT hg (by with_unfolding_all rfl)
noncomputable def cutV (xs : List V) (lo hi : Option Int) : List V := (xs.drop (HT.sIx xs.length 0 lo)).take (HT.sIx xs.length xs.length hi - HT.sIx xs.length 0 lo)
theorem cutV_length (xs : List V) (lo hi : Option Int) : (cutV xs lo hi).length ≤ xs.length := by
  unfold cutV
  rw [List.length_take, List.length_drop]
  first | assumption | decide | omega
end
end L2
namespace L2
open PySem PySem.Spec PyProof.Rows
noncomputable def ixN (n : Nat) (i : Int) : Option Nat := if 0 ≤ i then (if i < n then some i.toNat else none) else if -(n : Int) ≤ i then some (i + n).toNat else none
noncomputable def atI {α : Type} (xs : List α) (i : Int) : Option α := (ixN xs.length i).bind fun j => xs[j]?
theorem ixN_seq {n : Nat} {i : Int} {j : Nat} (h : ixN n i = some j) : seqIndex? i n = some j ∧ j < n ∧ -(n : Int) ≤ i ∧ i < n := by
  unfold ixN at h
  by_cases h0 : 0 ≤ i
  · rw [if_pos h0] at h
    by_cases h1 : i < n
    · rw [if_pos h1] at h
      have e : i.toNat = j := Option.some.inj h
      exact ⟨by rw [seqIndex_of h0 h1, e], by (first | assumption | decide | omega), by (first | assumption | decide | omega), h1⟩
    · rw [if_neg h1] at h; cases h
  · rw [if_neg h0] at h
    by_cases h1 : -(n : Int) ≤ i
    · rw [if_pos h1] at h
      have e : (i + n).toNat = j := Option.some.inj h
      exact ⟨by rw [seqIndex_neg (by (first | assumption | decide | omega)) h1, e], by (first | assumption | decide | omega), h1, by (first | assumption | decide | omega)⟩
    · rw [if_neg h1] at h; cases h
theorem atI_get {α : Type} {xs : List α} {i : Int} {v : α} (h : atI xs i = some v) : ∃ j, seqIndex? i xs.length = some j ∧ xs[j]? = some v ∧ j < xs.length ∧ -(xs.length : Int) ≤ i ∧ i < xs.length := by
  unfold atI at h
  cases e : ixN xs.length i with
  | none => rw [e] at h; cases h
  | some j =>
    rw [e] at h
    obtain ⟨h1, h2, h3, h4⟩ := ixN_seq e
    exact ⟨j, h1, h, h2, h3, h4⟩
theorem atI_nat {α : Type} {xs : List α} {j : Nat} {v : α} (h : xs[j]? = some v) : atI xs (j : Int) = some v := by
  have hj : j < xs.length := (List.getElem?_eq_some_iff.mp h).1
  have e : ixN xs.length (j : Int) = some j := by
    unfold ixN
    rw [if_pos (by (first | assumption | decide | omega)), if_pos (by (first | assumption | decide | omega))]; simp
  unfold atI; rw [e]; exact h
noncomputable def PlainIx (b : Expr) : Prop := ∀ o i, subscripted b false o i = operate [o, i] (getItem o i)
noncomputable def IxR (X : Cx) (r : R2) : Prop :=
  ∀ (value slice : Expr) (pins : List (Addr × Obj)) (s : Shared) (σ : St) (H : Hp) (x y : V) (v u : Value) (Q : VK), Inv X pins σ H s → RelV x v → RelV y u → r x y H Q →
    subscripted slice false v u = operate [v, u] (getItem v u) → wpAny (model X.prog X.w) X.A (subscriptTail value slice v u) (EP X pins σ Q) X.xe s
noncomputable def MtR (X : Cx) (id : String) (r : V → List V → Hp → VK → Prop) : Prop :=
  ∀ (pins : List (Addr × Obj)) (s : Shared) (σ : St) (H : Hp) (x : V) (xs : List V) (v : Value) (us : List Value) (Q : VK), Inv X pins σ H s → RelV x v → Vals xs us → r x xs H Q →
    wpAny (model X.prog X.w) X.A (call (.builtin id) (v :: us)) (EP X pins σ Q) X.xe s
section
variable {X : Cx} {a b : Expr} {ta tb : TE} {pos : Pos}
theorem pe_ix {r : R2} (hr : IxR X r) (ha : PE X a ta) (hb : PE X b tb) (hs : PlainIx b) : PE X (.Subscript a b pos) (tOp r ta tb) := by
  intro pins s σ H Q I h
  exact Subscript_ (binT ha hb I h fun v u s2 x y H2 I2 rx ry q => hr a b pins s2 σ H2 x y v u Q I2 rx ry q (hs _ _))
noncomputable def rIxL (K : PySem.W.Frag) : R2 := fun x y H Q => ∃ p xs i v, x = .ref p ∧ y = .int i ∧ SqL K H p xs ∧ atI xs i = some v ∧ Q v H
noncomputable def rIxT (K : PySem.W.Frag) : R2 := fun x y H Q => ∃ p xs i v, x = .ref p ∧ y = .int i ∧ SqT K H p xs ∧ atI xs i = some v ∧ Q v H
theorem ix_list : IxR X (rIxL X.K) := by
  intro value slice pins s σ H x y v u Q I rx ry h hs
  obtain ⟨p, xs, i, z, rfl, rfl, hq, he, q⟩ := h
  cases rx
  obtain ⟨t, rfl⟩ := ry
  obtain ⟨its, r, pl, hz⟩ := I.list hq
  obtain ⟨j, h1, h2, h3, h4, h5⟩ := atI_get he
  obtain ⟨w, ew, rw'⟩ := r.get h2
  have hl := r.length
  have hn := line63
  have fin : EP X pins σ Q w s := ⟨z, H, I, rw', q⟩
  by_cases h0 : 0 ≤ i
  · have hj : i.toNat = j := by
      rw [seqIndex_of h0 h5] at h1
      exact Option.some.inj h1
    exact item_listR pl.isList h0 (by (first | assumption | decide | omega)) (by rw [hj]; simpa using ew) fin hs
  · have hj : (i + (its.toArray.size : Int)).toNat = j := by
      rw [seqIndex_neg (by (first | assumption | decide | omega)) h4] at h1
      rw [List.size_toArray, ← hl]
      exact Option.some.inj h1
    exact subscriptTail_builtinR (x := w) pl.isList.typeIs slot_list_getitem.lookup
      (wpAny_getItem_list_neg (Q := fun r s' => r = w ∧ EP X pins σ Q r s') pl.isList (by (first | assumption | decide | omega)) (by rw [List.size_toArray] <;> omega) (by (first | assumption | decide | omega)) (by rw [hj]; simpa using ew) ⟨rfl, fin⟩) hs
theorem ix_tup : IxR X (rIxT X.K) := by
  intro value slice pins s σ H x y v u Q I rx ry h hs
  obtain ⟨p, xs, i, z, rfl, rfl, hq, he, q⟩ := h
  cases rx
  obtain ⟨t, rfl⟩ := ry
  obtain ⟨its, r, pl, hz⟩ := I.tuple hq
  obtain ⟨j, h1, h2, h3, h4, h5⟩ := atI_get he
  obtain ⟨w, ew, rw'⟩ := r.get h2
  have hl := r.length
  have hn := line63
  have fin : EP X pins σ Q w s := ⟨z, H, I, rw', q⟩
  exact subscriptTail_builtinR (x := w) pl.typeIs slot_tuple_getitem.lookup
    (getItem_tuple (j := j) (Q := fun r s' => r = w ∧ EP X pins σ Q r s') pl (by (first | assumption | decide | omega)) (by (first | assumption | decide | omega)) (by rw [List.size_toArray, ← hl]; exact h1) (by simpa using ew) ⟨rfl, fin⟩) hs
theorem slice_bounds (lo hi : Option Int) (n : Nat) : (sliceBounds lo hi none n).1 = ((HT.sIx n 0 lo : Nat) : Int) ∧ (sliceBounds lo hi none n).2.1 = ((HT.sIx n n hi : Nat) : Int) ∧ (sliceBounds lo hi none n).2.2 = 1 := by
  refine ⟨?_, ?_, rfl⟩
  · cases lo with
    | none => simp [sliceBounds, HT.sIx]
    | some i =>
      simp only [sliceBounds, HT.sIx, Option.getD_none, show (1 : Int) > 0 by decide, if_true]
      by_cases h : i < 0
      · simp only [h, if_true] <;> omega
      · simp only [h, if_false] <;> omega
  · cases hi with
    | none => simp [sliceBounds, HT.sIx]
    | some i =>
      simp only [sliceBounds, HT.sIx, Option.getD_none, show (1 : Int) > 0 by decide, if_true]
      by_cases h : i < 0
      · simp only [h, if_true] <;> omega
      · simp only [h, if_false] <;> omega
theorem slicePick_cut (its : List Value) (lo hi : Option Int) : slicePick its.toArray lo hi none = ((its.drop (HT.sIx its.length 0 lo)).take (HT.sIx its.length its.length hi - HT.sIx its.length 0 lo)).toArray := by
  obtain ⟨h1, h2, h3⟩ := slice_bounds lo hi its.toArray.size
  unfold slicePick
  rw [h1, h2, h3]
  simp only [sliceRange_one, pick_run, List.size_toArray] <;> rfl
noncomputable def rSlL (K : PySem.W.Frag) : V → Option Int → Option Int → Hp → VK → Prop := fun x lo hi H Q => ∃ a xs, x = .ref a ∧ SqL K H a xs ∧ ∀ p, H p = none → Q (.ref p) (upd H p (.lst (cutV xs lo hi)))
theorem sl_list : SlR X (rSlL X.K) := by
  intro pins s σ H x v vl vu lo hi sl Q I rx hs pl pu h
  obtain ⟨a, xs, rfl, hx, q⟩ := h
  cases rx
  obtain ⟨its, r, ht, hz⟩ := I.list hx
  have hlen := r.length
  refine ⟨"list", _, slot_list_getitem.lookup, ht.isList.typeIs, ?_⟩
  refine wpAny_getItem_list_slice ht.isList hs pl pu .none (by simp) ?_ (by rw [List.size_toArray] <;> omega)
  rw [slicePick_cut, ← hlen]
  refine ⟨.ref s.heap.objs.size, _, I.laid (t' := s.toks) (o := .lst (cutV xs lo hi)) (fun b ob q => Heap.get?_push_of_some _ q) (Nat.le_refl _) ?_, rfl, q _ (I.hok.fresh (Nat.le_refl _))⟩
  exact ⟨Nat.le_trans (cutV_length xs lo hi) hz, _, 0, (r.drop (HT.sIx xs.length 0 lo)).take (HT.sIx xs.length xs.length hi - HT.sIx xs.length 0 lo), Heap.get?_push_size _ rfl⟩
noncomputable def flatV : V → Bool
  | .non => true
  | .bl _ => true
  | .int _ => true
  | .str _ => true
  | _ => false
noncomputable def eqV : V → V → Bool
  | .non, .non => true
  | .bl a, .bl b => a == b
  | .bl a, .int b => (if a then 1 else 0) == b
  | .int a, .bl b => a == (if b then 1 else 0)
  | .int a, .int b => a == b
  | .str a, .str b => a == b
  | _, _ => false
theorem eqAt_V {A : Around} {s : Shared} {y x : V} {u v : Value} (ry : RelV y u) (rx : RelV x v) (fy : flatV y = true) (fx : flatV x = true) : SeqAt.EqAt A s u v (eqV y x) := by
  cases y with
  | non =>
    cases ry
    cases x with
    | non => cases rx; exact SeqAt.EqAt.same _
    | bl b => cases rx; exact SeqAt.EqAt.none_bool b
    | int b => obtain ⟨t, rfl⟩ := rx; exact SeqAt.EqAt.none_int b t
    | str b => obtain ⟨t, rfl⟩ := rx; exact SeqAt.EqAt.none_str b t
    | _ => exact absurd (show false = true from fx) Bool.false_ne_true
  | bl a =>
    cases ry
    cases x with
    | non => cases rx; exact SeqAt.EqAt.bool_none a
    | bl b => cases rx; exact SeqAt.EqAt.bool_bool a b
    | int b => obtain ⟨t, rfl⟩ := rx; exact SeqAt.EqAt.bool_int a b t
    | str b => obtain ⟨t, rfl⟩ := rx; exact SeqAt.EqAt.bool_str a b t
    | _ => exact absurd (show false = true from fx) Bool.false_ne_true
  | int a =>
    obtain ⟨t', rfl⟩ := ry
    cases x with
    | non => cases rx; exact SeqAt.EqAt.int_none a t'
    | bl b => cases rx; exact SeqAt.EqAt.int_bool a t' b
    | int b => obtain ⟨t, rfl⟩ := rx; exact SeqAt.EqAt.int_int a t' b t
    | str b => obtain ⟨t, rfl⟩ := rx; exact SeqAt.EqAt.int_str a t' b t
    | _ => exact absurd (show false = true from fx) Bool.false_ne_true
  | str a =>
    obtain ⟨t', rfl⟩ := ry
    cases x with
    | non => cases rx; exact SeqAt.EqAt.str_none a t'
    | bl b => cases rx; exact SeqAt.EqAt.str_bool a t' b
    | int b => obtain ⟨t, rfl⟩ := rx; exact SeqAt.EqAt.str_int a t' b t
    | str b => obtain ⟨t, rfl⟩ := rx; exact SeqAt.EqAt.str_str a t' b t
    | _ => exact absurd (show false = true from fx) Bool.false_ne_true
  | _ => exact absurd (show false = true from fy) Bool.false_ne_true
theorem call_list_of : CallR X (.type "list") (fun xs H Q => ∃ p ys, xs = [.ref p] ∧ (SqL X.K H p ys ∨ SqT X.K H p ys) ∧ ∀ l, H l = none → Q (.ref l) (upd H l (.lst ys))) := by
  intro pins s σ H xs us Q I r h
  obtain ⟨p, ys, rfl, hq, q⟩ := h
  obtain ⟨u, rfl, rx⟩ := vals1 r
  cases rx
  have fin : ∀ (its : List Value), Vals ys its → ys.length ≤ sizeLine → ∀ (h' : Heap) (c' : Nat), (∀ b o', s.heap.get? b = some o' → h'.get? b = some o') →
      h'.get? s.heap.objs.size = some { cls := .type "list", dict := none, data := .seq its.toArray c', slots := #[] } → EP X pins σ Q (.ref s.heap.objs.size) { s with heap := h' } := fun its r' hz h' c' kp e =>
    ⟨.ref s.heap.objs.size, _, I.laid (t' := s.toks) kp (Nat.le_refl _) (show ObjOk X.prog X.w _ h' _ (.lst ys) from ⟨hz, its, c', r', e⟩), rfl, q _ (I.hok.fresh (Nat.le_refl _))⟩
  rcases hq with hq | hq
  · obtain ⟨its, r', pl, hz⟩ := I.list hq
    have hlen := r'.length
    obtain ⟨o, ho, hc, n, hd⟩ := pl.isList
    exact call_list_seq p (.inl rfl) ho hc hd (fun h' c' kp e => fin its r' hz h' c' kp e) (by simp only [List.size_toArray] <;> omega)
  · obtain ⟨its, r', pl, hz⟩ := I.tuple hq
    have hlen := r'.length
    obtain ⟨o, ho, hc, n, hd⟩ := pl
    exact call_list_seq p (.inr rfl) ho hc hd (fun h' c' kp e => fin its r' hz h' c' kp e) (by simp only [List.size_toArray] <;> omega)
theorem call_tuple_of : CallR X (.type "tuple") (fun xs H Q => ∃ p ys, xs = [.ref p] ∧ ((SqL X.K H p ys ∧ ∀ l, H l = none → Q (.ref l) (upd H l (.tup ys))) ∨ (SqT X.K H p ys ∧ Q (.ref p) H))) := by
  intro pins s σ H xs us Q I r h
  obtain ⟨p, ys, rfl, h⟩ := h
  obtain ⟨u, rfl, rx⟩ := vals1 r
  cases rx
  rcases h with ⟨hq, q⟩ | ⟨hq, q⟩
  · obtain ⟨its, r', pl, hz⟩ := I.list hq
    have hlen := r'.length
    refine call_tuple_list pl.isList (fun h' kp => ?_) (by simp only [List.size_toArray] <;> omega)
    have I1 : Inv X pins σ H { s with heap := h' } := I.kept (t' := s.toks) kp
    have I2 : Inv X pins σ (upd H h'.objs.size (.tup ys)) { s with heap := h'.push { cls := .type "tuple", data := .seq its.toArray } } :=
      I1.laid (t' := s.toks) (fun b o e => Heap.get?_push_of_some _ e) (Nat.le_refl _) (show ObjOk X.prog X.w _ _ _ (.tup ys) from ⟨hz, its, r', IsTup.new _ _⟩)
    exact ⟨.ref h'.objs.size, _, I2, rfl, q _ (I1.hok.fresh (Nat.le_refl _))⟩
  · obtain ⟨its, r', pl, hz⟩ := I.tuple hq
    exact call_tuple_same pl ⟨.ref p, H, I, rfl, q⟩
noncomputable def tyV (K : PySem.W.Frag) (T : String) (x : V) (H : Hp) : Prop := match x with
  | .str _ => T = "str"
  | .int _ => T = "int"
  | .ref p => (T = "list" ∧ ∃ xs, SqL K H p xs) ∨ (T = "tuple" ∧ ∃ o, K.lookup p = some o ∧ o.cls = .type "tuple" ∧ o.dict = none) ∨
      (T = "dict" ∧ ((∃ kvs, H p = some (.dK kvs)) ∨ ∃ kvs, H p = some (.dT kvs))) ∨ (T = "set" ∧ ∃ S n, H p = some (.set S n))
  | _ => False
theorem tyV_is {pins : List (Addr × Obj)} {σ : St} {H : Hp} {s : Shared} {T : String} {x : V} {v : Value} (I : Inv X pins σ H s) (r : RelV x v) (ty : tyV X.K T x H) :
    s.TypeIs v T ∧ ∀ a, v = .ref a → ∃ ob, s.heap.get? a = some ob ∧ ob.dict = none := by
  cases x with
  | str z =>
    obtain ⟨t, rfl⟩ := r
    cases (show T = "str" from ty)
    exact ⟨typeIs_str s z t, fun _ e => nomatch e⟩
  | int i =>
    obtain ⟨t, rfl⟩ := r
    cases (show T = "int" from ty)
    exact ⟨typeIs_int s i t, fun _ e => nomatch e⟩
  | ref p =>
    cases r
    rcases ty with ⟨rfl, xs, hq⟩ | ⟨rfl, o, hk, hc, hd⟩ | ⟨rfl, hk⟩ | ⟨rfl, S, n, hk⟩
    · obtain ⟨its, _, pl, _⟩ := I.list hq
      refine ⟨pl.isList.typeIs, fun a e => ?_⟩
      cases e
      obtain ⟨o, n, e, c, hd, _⟩ := pl
      exact ⟨o, e, hd⟩
    · refine ⟨⟨o, I.kIn p o hk, hc⟩, fun a e => ?_⟩
      cases e
      exact ⟨o, I.kIn _ o hk, hd⟩
    · have z : ∃ o, s.heap.get? p = some o ∧ o.ExactDict := by
        rcases hk with ⟨kvs, hk⟩ | ⟨kvs, hk⟩
        · obtain ⟨_, _, _, _, o, _, _, e, ex, _⟩ := I.hok p _ hk
          exact ⟨o, e, ex⟩
        · obtain ⟨_, _, _, _, o, _, _, e, ex, _⟩ := I.hok p _ hk
          exact ⟨o, e, ex⟩
      obtain ⟨o, e, ex⟩ := z
      refine ⟨⟨o, e, ex.1⟩, fun a e2 => ?_⟩
      cases e2
      exact ⟨o, e, ex.2.1⟩
    · obtain ⟨o, _, _, _, e, ex, _⟩ := I.hok p _ hk
      refine ⟨⟨o, e, ex.1⟩, fun a e2 => ?_⟩
      cases e2
      exact ⟨o, e, ex.2.1⟩
  | _ => exact False.elim ty
noncomputable def tBM0 (K : PySem.W.Frag) (T : String) (r : V → List V → Hp → VK → Prop) (to : TE) : TE := fun σ H Q => to σ H fun x H1 => tyV K T x H1 ∧ r x [] H1 Q
noncomputable def tBM (K : PySem.W.Frag) (T : String) (r : V → List V → Hp → VK → Prop) (to : TE) (t : TA) : TE := fun σ H Q => to σ H fun x H1 => tyV K T x H1 ∧ t σ H1 fun xs H2 => r x xs H2 Q
variable {o e : Expr} {es : List Expr} {to : TE} {t : TA} {name : Str} {apos cpos : Pos} {T id : String} {r : V → List V → Hp → VK → Prop}
theorem pe_bm0 (pa : PlainAttrs T) (slot : Slot T name id) (hty : typeOf (.builtin id) = pure (.type "method_descriptor")) (hm : MtR X id r) (ho : PE X o to)
    (hbase : attributeBase o name X.env (eval o X.env) = eval o X.env := by rfl) (hline : (apos.endLine == cpos.line) = true := by rfl) : PE X (.Call (.Attribute o name apos) [] [] cpos) (tBM0 X.K T r to) := by
  intro pins s σ H Q I h
  refine wpAny_Call_method0_late hbase hline (thn (ho pins s σ H _ I h) fun v s1 zPt => ?_)
  obtain ⟨x, H1, I1, r1, ty, q1⟩ := zPt
  obtain ⟨h1, h2⟩ := tyV_is I1 r1 ty
  exact ⟨T, id, pa, slot, hty, h1, h2, Calls.callWith_builtin rfl (PySem.evalArgs_none (hm pins s1 σ H1 x [] v [] Q I1 r1 .nil q1))⟩
theorem pe_bm (pa : PlainAttrs T) (slot : Slot T name id) (hty : typeOf (.builtin id) = pure (.type "method_descriptor")) (hm : MtR X id r) (ho : PE X o to) (ha : PA X (e :: es) t)
    (hbase : attributeBase o name X.env (eval o X.env) = eval o X.env := by rfl)
    (hfew : ((backTo cpos (starEach (e :: es) X.env)).all (fun x => !x.1) && (backToKw cpos (keywordEach [] X.env)).all (fun x => x.1.isSome)
      && decide ((e :: es).length + ([] : List Keyword).length + (if ([] : List Keyword).isEmpty then 0 else 1) < 30)) = true := by rfl)
    (hline : (apos.endLine == cpos.line) = true := by rfl) (hs : starEach (e :: es) X.env = (false, eval e X.env) :: starEach es X.env := by rfl) (hplain : (backTo cpos (starEach es X.env)).any (·.1) = false := by rfl) :
    PE X (.Call (.Attribute o name apos) (e :: es) [] cpos) (tBM X.K T r to t) := by
  intro pins s σ H Q I h
  refine wpAny_Call_method_late hbase hfew hline rfl (thn (ho pins s σ H _ I h) fun v s1 zPt => ?_)
  obtain ⟨x, H1, I1, r1, ty, q1⟩ := zPt
  obtain ⟨h1, h2⟩ := tyV_is I1 r1 ty
  refine ⟨T, id, pa, slot, hty, h1, h2, ?_⟩
  have hA := ha cpos pins s1 σ H1 _ I1 q1
  rw [hs] at hA ⊢
  refine Calls.callWith_builtin (by show (false || (backTo cpos (starEach es X.env)).any (·.1)) = false; rw [hplain] <;> rfl) (Calls.evalArgs_plain ?_)
  exact thn hA fun us s2 ⟨vs, H2, I2, r2, q2⟩ => hm pins s2 σ H2 x vs v us Q I2 r1 r2 q2
end
end L2
namespace L2
open PySem PySem.Spec PyProof.Rows
noncomputable def MtM (X : Cx) (id : String) (r : V → List V → Hp → VK → Prop) : Prop :=
  ∀ (pins : List (Addr × Obj)) (s : Shared) (σ : St) (H : Hp) (x : V) (xs : List V) (v : Value) (us : List Value) (Q : VK), Inv X pins σ H s → RelV x v → Vals xs us → r x xs H Q →
    wpAny (model X.prog X.w) X.A (call (.builtin id) (v :: us)) (EP X pins σ Q) X.xe s
theorem Vals.one {x : V} {us : List Value} (h : Vals [x] us) : ∃ u, us = [u] ∧ RelV x u := by
  cases h with
  | cons r t =>
    cases t
    exact ⟨_, rfl, r⟩
theorem Vals.zero : ∀ {us : List Value}, Vals [] us → us = []
  | _, .nil => rfl
theorem Vals.rep {xs : List V} {us : List Value} (h : Vals xs us) : ∀ k : Nat, Vals (List.replicate k xs).flatten (List.replicate k us).flatten
  | 0 => .nil
  | k + 1 => by
    rw [List.replicate_succ, List.replicate_succ, List.flatten_cons, List.flatten_cons]
    exact Vals.append h (Vals.rep h k)
theorem foldl_rep (its : List Value) : ∀ (k : Nat) (acc : List Value),
    List.foldl (fun x1 x2 => x1 ++ x2) acc.toArray (List.replicate k its.toArray) = (acc ++ (List.replicate k its).flatten).toArray
  | 0, acc => by simp
  | k + 1, acc => by
    have e : acc.toArray ++ its.toArray = (acc ++ its).toArray := by simp
    have e2 : (acc ++ its) ++ (List.replicate k its).flatten = acc ++ (List.replicate (k + 1) its).flatten := by
      rw [List.replicate_succ, List.flatten_cons, List.append_assoc]
    rw [← e2, ← foldl_rep its k (acc ++ its), ← e, List.replicate_succ, List.foldl_cons]
section
variable {X : Cx} {pins : List (Addr × Obj)} {σ : St} {H : Hp} {s : Shared} {l b : Addr} {xs ys zs : List V}
theorem Inv.lset {its its' : List Value} {n : Nat} {f : Array Value → Array Value} {t' : Nat} (I : Inv X pins σ H s) (hH : H l = some (.lst xs))
    (e : s.heap.get? l = some { cls := .type "list", data := .seq its.toArray n }) (hf : f its.toArray = its'.toArray) (hv : Vals ys its') (hz : ys.length ≤ sizeLine) :
    Inv X pins σ (upd H l (.lst ys)) { s with heap := s.heap.update l (Obj.mapSeq f), toks := t' } := by
  have q := PySem.IsL.update e f
  rw [hf] at q
  refine I.write (x := l) (e := l) (by rw [hH]; exact trivial) (.inl rfl) (fun b' u hb hu => (Heap.get?_update_other s.heap (Obj.mapSeq f) (Ne.symm hb)).trans hu) ⟨_, q⟩ ?_
  exact ⟨hz, its', _, hv, q⟩
theorem Inv.lnew {its : List Value} {t' : Nat} (I : Inv X pins σ H s) (hv : Vals ys its) (hz : ys.length ≤ sizeLine) :
    Inv X pins σ (upd H s.heap.objs.size (.lst ys)) { s with heap := s.heap.push { cls := .type "list", data := .seq its.toArray }, toks := t' } :=
  I.laid (fun _ _ q => Heap.get?_push_of_some _ q) (Nat.le_refl _) ⟨hz, its, 0, hv, Heap.get?_push_size _ rfl⟩
theorem Inv.fresh (I : Inv X pins σ H s) : H s.heap.objs.size = none := I.hok.fresh (Nat.le_refl _)
theorem Inv.lstM (I : Inv X pins σ H s) (hH : H l = some (.lst xs)) : xs.length ≤ sizeLine ∧ ∃ (its : List Value) (n : Nat), Vals xs its ∧ xs.length = its.length ∧ s.heap.get? l = some { cls := .type "list", data := .seq its.toArray n } := by
  obtain ⟨z, its, n, r, e⟩ := I.hok l _ hH
  exact ⟨z, its, n, r, r.length, e⟩
theorem notLongL {n : Nat} (h : n ≤ sizeLine) : Builtin.List.listTooLong n = false := by
  unfold Builtin.List.listTooLong
  exact decide_eq_false (by (first | assumption | decide | omega))
end
section
variable {X : Cx}
noncomputable def rAppend : V → List V → Hp → VK → Prop := fun x vs H Q => ∃ l xs y, x = .ref l ∧ vs = [y] ∧ H l = some (.lst xs) ∧ xs.length < sizeLine ∧ Q .non (upd H l (.lst (xs ++ [y])))
theorem mt_append : MtM X "list.append" rAppend := by
  intro pins s σ H x vs v us Q I rx rv h
  obtain ⟨l, xs, y, rfl, rfl, hH, hz, q⟩ := h
  cases rx
  obtain ⟨u, rfl, ru⟩ := rv.one
  obtain ⟨z, its, n, r, hl, e⟩ := I.lstM hH
  refine call_meets F.slot_list_append ⟨_, e, rfl⟩ F.entry_list_append (F.args_list_append_2 _ _) (PySem.list_append l its.toArray n u (by rw [List.size_toArray]; omega)) ⟨e, ?_⟩
  refine ⟨.non, _, I.lset (its' := its ++ [u]) hH e (by simp) (r.append (.cons ru .nil)) ?_, rfl, q⟩
  rw [List.length_append, List.length_singleton]
  first | assumption | decide | omega
noncomputable def rExtend : V → List V → Hp → VK → Prop := fun x vs H Q => ∃ l b xs zs, x = .ref l ∧ vs = [.ref b] ∧ H l = some (.lst xs) ∧ H b = some (.lst zs) ∧ xs.length + zs.length ≤ sizeLine ∧ Q .non (upd H l (.lst (xs ++ zs)))
theorem mt_extend : MtM X "list.extend" rExtend := by
  intro pins s σ H x vs v us Q I rx rv h
  obtain ⟨l, b, xs, zs, rfl, rfl, hH, hB, hz, q⟩ := h
  cases rx
  obtain ⟨u, rfl, ru⟩ := rv.one
  cases ru
  obtain ⟨z, its, n, r, hl, e⟩ := I.lstM hH
  obtain ⟨z2, its2, n2, r2, hl2, e2⟩ := I.lstM hB
  have hsz : its.toArray.size + its2.toArray.size ≤ sizeLine := by rw [List.size_toArray, List.size_toArray]; omega
  have hlong : ¬ (!its.toArray.isEmpty && Builtin.List.listTooLong (its.toArray.size + its2.toArray.size)) = true := by
    rw [notLongL hsz, Bool.and_false]
    exact Bool.false_ne_true
  refine call_meets F.slot_list_extend ⟨_, e, rfl⟩ F.entry_list_extend (F.args_list_extend_2 _ _)
    (AutoSeq1.list_extend_list_list_0 l its.toArray n b its2.toArray n2 hlong (by rw [List.size_toArray]; omega) (by (first | assumption | decide | omega))) ⟨e, e2, ?_⟩
  refine ⟨.non, _, I.lset (its' := its ++ its2) hH e (by simp) (r.append r2) ?_, rfl, q⟩
  rw [List.length_append]
  first | assumption | decide | omega
noncomputable def rRep : R2 := fun x y H Q => ∃ l k xs, x = .ref l ∧ y = .int k ∧ H l = some (.lst xs) ∧ -(2 ^ 63) ≤ k ∧ k < 2 ^ 63 ∧ xs.length * k.toNat ≤ sizeLine ∧
  ∀ p, H p = none → Q (.ref p) (upd H p (.lst (List.replicate k.toNat xs).flatten))
theorem len_rep {α : Type} (xs : List α) (k : Nat) : (List.replicate k xs).flatten.length = k * xs.length := by
  induction k with
  | zero => simp
  | succ k ih => rw [List.replicate_succ, List.flatten_cons, List.length_append, ih, Nat.succ_mul, Nat.add_comm]
theorem op_rep : OpR X (binaryOp .Mult) rRep := by
  intro pins s σ H x y v u Q I rx ry h
  obtain ⟨l, k, xs, rfl, rfl, hH, h1, h2, hz, q⟩ := h
  cases rx
  obtain ⟨t, rfl⟩ := ry
  obtain ⟨z, its, n, r, hl, e⟩ := I.lstM hH
  have hlen : its.toArray.size * k.toNat ≤ sizeLine := by rw [List.size_toArray, ← hl]; exact hz
  have hcap : ¬ its.toArray.size * k.toNat > (2 ^ 63 - 1) / 8 := by
    have : (sizeLine : Nat) ≤ (2 ^ 63 - 1) / 8 := by decide
    first | assumption | decide | omega
  have hfit : ¬ (!Builtin.List.listFitsIndex k) = true := by
    rw [fitsIndex_both h1 h2]
    exact Bool.false_ne_true
  have hlong : ¬ Builtin.List.listTooLong (its.toArray.size * k.toNat) = true := by
    rw [notLongL hlen]
    exact Bool.false_ne_true
  have hnew : List.foldl (fun x1 x2 => x1 ++ x2) #[] (List.replicate (if its.toArray.isEmpty = true then 0 else k.toNat) its.toArray) = (List.replicate k.toNat its).flatten.toArray := by
    have f0 : ∀ m : Nat, List.foldl (fun x1 x2 => x1 ++ x2) #[] (List.replicate m its.toArray) = (List.replicate m its).flatten.toArray := fun m => by
      have := foldl_rep its m []
      rw [List.nil_append] at this
      exact this
    rw [f0]
    cases its with
    | nil => simp
    | cons a r' => rw [if_neg (by simp)]
  refine wpAny_binaryOp_repeat_ref (T := "list") (U := "int") (by decide) ⟨_, e, rfl⟩ (fun s' => typeIs_int s' k t) noFill_list_mul F.fills_int_mul F.slot_int_rmul repeat_list F.slot_int_index.lookup
    (call_meets F.slot_int_rmul (typeIs_int s k t) F.entry_int_rmul (F.args_int_rmul_2 _ _) (int___rmul___int_list k t l its.toArray n)
      ⟨e, rfl, ⟨_, e, rfl⟩, call_meets F.slot_list_mul ⟨_, e, rfl⟩ F.entry_list_mul (F.args_list_mul_2 _ _) (AutoListH.list___mul___list_int_3 l its.toArray n k t hfit hcap hlong) ⟨e, ?_⟩⟩)
  rw [hnew]
  exact ⟨.ref _, _, I.lnew (t' := s.toks) (r.rep k.toNat) (by rw [len_rep, Nat.mul_comm]; exact hz), rfl, q _ I.fresh⟩
end
section
variable {prog : Program} {w : World} {A : Around} {E : Value → Shared → Prop} {s : Shared}
end
section
variable {X : Cx}
end
end L2
namespace Att
open PySem PySem.W PySem.Calls PyProof.Rows
theorem ints_of_wellAll {P : Params} {h : Heap} : ∀ (ns : List Int) (vs : List Value), WellAll P h vs (ns.map WData.int) → IntsAre vs ns := by
  intro ns
  induction ns with
  | nil =>
    intro vs w
    rw [List.map_nil] at w
    cases w
    exact .nil
  | cons n ns ih =>
    intro vs w
    rw [List.map_cons] at w
    cases w with
    | cons a b =>
      cases a
      exact .cons _ _ (ih _ b)
theorem script_of {l : OpenLaw} {n : Nat} (hn : l.most = some n) {P : Params} {h : Heap} {args : List WData} {vals : List Value}
    (hpre : l.row.toRowW.claim.pre args = true) (hwl : WellAll P h vals args) :
    ∃ a vs ns, vals = [Value.ref a] ∧ args = [WData.list (ns.map WData.int)] ∧ h.get? a = some { cls := .type "list", data := .seq vs.toArray } ∧ IntsAre vs ns ∧ ns.length ≤ n := by
  have hsh : WShape.hasAll [] args [.list .int] = true := (pre_splitW hpre).1
  have hc : l.pre.holds [] { args := args } = true := (pre_splitW hpre).2
  obtain ⟨d, r, rfl, h1, h2⟩ := hasAllW_cons hsh
  obtain rfl := hasAllW_nil h2
  obtain ⟨xs, rfl, h3⟩ := hasW_list h1
  obtain ⟨ns, rfl⟩ := items_int h3
  have hlen : ns.length ≤ n := by
    unfold OpenLaw.pre at hc
    have h4 : (WTm.not (.lt (.lit (.int (n : Int))) (.len (.arg 0)))).holds [] { args := [.list (ns.map .int)] } = true := by
      have h4 := (holds_andW hc).1
      rw [hn] at h4
      exact h4
    have h5 := condW_of h4 (w_not (w_lt w_lit (w_len_list (w_arg rfl))))
    rw [List.length_map] at h5
    refine Nat.le_of_not_lt fun q => ?_
    have q' : (n : Int) < ((ns.length : Nat) : Int) := by (first | assumption | decide | omega)
    first
      | (rw [decide_eq_true q'] at h5; exact absurd h5 (by decide))
      | (simp at h5; omega)
  cases hwl with
  | cons w1 w2 =>
    cases w2
    cases w1 with
    | list ho hall => exact ⟨_, _, ns, rfl, rfl, ho, ints_of_wellAll ns _ hall, hlen⟩
theorem post_true (l : OpenLaw) (args : List WData) : l.row.toRowW.claim.post args (.bool true) args = true :=
  postW_of (r := l.row.toRowW) (X := (true == true))
    (show WShape.has [] (.bool true) .bool = true by first | rfl | decide | simp [WShape.has, WShape.arms, WShape.armsAll])
    (show (WTm.eq .res (.lit (.bool true))).value [] { args := args, res := some (.bool true), after := args } = some (.bool (true == true)) from w_eq_bool (w_res rfl) w_lit) rfl
theorem attach_call {l : OpenLaw} {n : Nat} {q : Program} {loose : List Str} {XP : (Str → Option Value) → Heap → Prop} {YP : World → Heap → Prop} {d : DefRec}
    (hn : l.most = some n) (hdf : d.params.defaults = [])
    (call : ∀ (w : World) (s₀ s₁ : Shared) (mg mb : Str → Option Value) (fa : Addr) (o : Obj) (pm cd doc : Value) (a : Addr) (vs : List Value) (ns : List Int),
      Ground q loose [] XP w s₀ mg mb s₁.heap → YP w s₁.heap →
      s₁.heap.get? fa = some o → o.data = .func (docDef d.name d.params d.body d.scope pm cd doc) → s₁.heap.CodeRec cd d.name → mg d.name = some (.ref fa) →
      s₁.heap.get? a = some { cls := .type "list", data := .seq vs.toArray } → IntsAre vs ns → ns.length ≤ n → s₁.gens = #[] →
      codeAny (model l.prog w) callerA (.call (.ref fa) ⟨[.ref a], []⟩) (fun r s' => r = .ok (.ret (.bool true)) ∧ OldK s₁.heap s'.heap ∧ s'.os = s₁.os ∧ AllBare s'.gens) s₁) :
    WalkO q loose XP YP l.row.toRowW d [] (fun f vs => PySem.call f vs) := by
  intro w s₀ s₁ mg mb G Y fa o pm cd doc dV kV ho hd hcd hD hmg hg args vals as hpre hlay hrd hwl hlo
  obtain rfl : dV = .none := Dflts.none hD hdf
  obtain rfl : kV = .none := Dflts.noKw hD
  obtain ⟨a, vs, ns, rfl, rfl, hobj, hints, hlen⟩ := script_of hn hpre hwl
  refine enter_call (codeAny_mono (call w s₀ s₁ mg mb fa o pm cd doc a vs ns G Y ho (fd_plain hd) hcd hmg hobj hints hlen hg) fun r s' hq => ?_)
  obtain ⟨rfl, h2, h3, h4⟩ := hq
  exact ⟨.inl ⟨.bool true, .bool true, [], rfl, fun _ => rfl, .bool true, post_true l _, fun _ => ⟨List.Pairwise.nil, fun _ hm => (nomatch hm)⟩⟩, h2, h3, h4⟩
section
variable {prog : Program} {w : World} {A : Around} {E : Value → Shared → Prop} {s : Shared} {K : Frag}
end
end Att
namespace L2
open PySem PySem.Spec PyProof.Rows
theorem vals_ints : ∀ {vs : List Value} {ns : List Int}, IntsAre vs ns → Vals (ns.map V.int) vs
  | _, _, .nil => .nil
  | _, _, .cons n t h => .cons ⟨t, rfl⟩ (vals_ints h)
end L2
namespace L2
open PySem PySem.Spec PyProof.Rows
end L2
namespace L2
open PySem PySem.Spec PyProof.Rows
noncomputable def inClass (s : Stmt) (j : Nat) : Stmt := match s with
  | .ClassDef _ _ _ body _ _ _ _ _ _ _ => body.getD j (.Pass ⟨0, 0, 0, 0⟩)
  | _ => .Pass ⟨0, 0, 0, 0⟩
noncomputable def defArgs (s : Stmt) : Arguments := match s with
  | .FunctionDef _ a _ _ _ _ _ _ _ _ => a
  | _ => { posonlyargs := [], args := [], vararg := none, kwonlyargs := [], kw_defaults := [], kwarg := none, defaults := [] }
noncomputable def defBody (s : Stmt) : List Stmt := match s with
  | .FunctionDef _ _ b _ _ _ _ _ _ _ => b
  | _ => []
noncomputable def defScope (s : Stmt) : Scope := match s with
  | .FunctionDef _ _ _ _ _ _ sc _ _ _ => sc
  | _ => { kind := .function, names := [], isGenerator := false, isCoroutine := false }
noncomputable abbrev CX0 : CXT := fun _ _ _ _ _ _ => False
noncomputable abbrev E0 : XK := fun _ _ _ => False
theorem pass0 {X : Cx} : Passes CX0 X E0 := fun _ _ _ _ _ _ _ h => h.elim
set_option genInjectivity false in
structure Fun (K : PySem.W.Frag) (x qual : Str) (st : Stmt) (f : Addr) (fd : FuncData) : Prop where
  ex : ∃ (oc : Value) (od : Option Addr) (kV doc pm : Value) (an : Option Addr) (cdv ct : Value) (osl : Array (Option Value)),
    fd = PySem.W.fnOf x qual (defArgs st) (defBody st) (defScope st) .none kV doc pm an cdv ct ∧ K.lookup f = some ⟨oc, od, .func fd, osl⟩ ∧ PySem.W.codeIn K cdv qual = true
  kp : PySem.W.keepIn K (.ref f) = true
section
variable {P : Program} {w : World} {K : PySem.W.Frag} {mg : Str → Option Value} {base : Heap}
theorem Fun.ok {x qual : Str} {st : Stmt} {f : Addr} {fd : FuncData} {N ps : List Str} {k : Nat} {sp : Sp} (F : Fun K x qual st f fd) (S : FnScope N ps (defScope st)) (len : ∀ vs H Q E, sp vs H Q E → vs.length = ps.length)
    (hbody : ∀ (cdv : Value) (A : Around) (outer : List Env) (s : Shared) (H : Hp) (vs : List V) (Q : VK) (E : XK), Room k (A.deeper (envOfC qual (defScope st) s.heap.objs.size f cdv)) → sp vs H Q E →
      ∃ t, PSs (cxOf CX0 P w K mg base N qual (defScope st) f cdv A outer s H E).nox (defBody st) t ∧ t { nx := fun _ H' => Q .non H', rt := Q } (start N vs) H) : FnOk P w K mg base CX0 (k + 1) f fd ps sp := by
  obtain ⟨oc, od, kV, doc, pm, an, cdv, ct, osl, rfl, lk, hcd⟩ := F.ex
  refine fn_of lk hcd S len fun A outer s H vs Q E hr hsp => ?_
  obtain ⟨t, h, q⟩ := hbody cdv A outer s H vs Q E hr hsp
  exact ⟨t, h.nox, q⟩
theorem Fun.binds {x qual : Str} {st : Stmt} {f : Addr} {fd : FuncData} {ps : List Str} (F : Fun K x qual st f fd)
    (h : ∀ (kV doc pm : Value) (an : Option Addr) (cdv ct : Value) (us : List Value), us.length = ps.length → bindArgs (PySem.W.fnOf x qual (defArgs st) (defBody st) (defScope st) .none kV doc pm an cdv ct) ⟨us, []⟩ = pure (ps.zip us)) : Binds K fd ps [] := by
  obtain ⟨oc, od, kV, doc, pm, an, cdv, ct, osl, rfl, lk, hcd⟩ := F.ex
  exact .all (h kV doc pm an cdv ct)
theorem fun_mk {x qual : Str} {st : Stmt} {f : Addr} {oc : Value} {od an : Option Addr} {osl : Array (Option Value)} {kV doc pm cdv ct : Value} (l : K.lookup f = some ⟨oc, od, .func (PySem.W.fnOf x qual (defArgs st) (defBody st) (defScope st) .none kV doc pm an cdv ct), osl⟩)
    (c : PySem.W.codeIn K cdv qual = true) (k : PySem.W.keepIn K (.ref f) = true) : Fun K x qual st f (PySem.W.fnOf x qual (defArgs st) (defBody st) (defScope st) .none kV doc pm an cdv ct) := ⟨⟨oc, od, kV, doc, pm, an, cdv, ct, osl, rfl, l, c⟩, k⟩
end
section
variable {X : Cx}
theorem pv (i : Nat) {x : Str} {pos : Pos} (hN : X.N[i]? = some x := by rfl) (hv : Vis X.env.scope x := by first | exact Or.inl rfl | exact Or.inr (Or.inl rfl) | exact Or.inr (Or.inr rfl)) (hd : (x == ("__debug__" : Str)) = false := by decide)
    (hcd : (x == ("__classdict__" : Str)) = false := by decide) : PE X (.Name x pos) (tVar i) := pe_var hN hv hd hcd
end
theorem iteF {A B : Prop} (h : B) : if false = true then A else B := by
  rw [if_neg Bool.false_ne_true]
  exact h
theorem iteT {A B : Prop} (h : A) : if true = true then A else B := by
  rw [if_pos rfl]
  exact h
noncomputable def Same (H H' : Hp) : Prop := ∀ b o, H b = some o → H' b = some o
theorem Same.refl (H : Hp) : Same H H := fun _ _ h => h
theorem Same.trans {H H1 H2 : Hp} (a : Same H H1) (b : Same H1 H2) : Same H H2 := fun c o h => b c o (a c o h)
theorem Same.free {H H' : Hp} (e : Same H H') {l : Addr} (h : H' l = Option.none) : H l = Option.none := by
  cases q : H l with
  | none => rfl
  | some o =>
    rw [e l o q] at h
    cases h
theorem Same.seq {K : PySem.W.Frag} {H H' : Hp} {a : Addr} {xs : List V} (e : Same H H') (h : SqL K H a xs) : SqL K H' a xs := by
  rcases h with (h | ⟨o, h⟩) | h
  · exact .inl (.inl (e _ _ h))
  · exact .inl (.inr ⟨o, e _ _ h⟩)
  · exact .inr h
end L2
namespace L2
open PySem PySem.Spec PyProof.Rows
section
variable {κ : Type} [DecidableEq κ]
end
section
variable {P : Program} {w : World} {H : Hp} {h : Heap} {a : Addr}
end
section
variable {X : Cx} {pins : List (Addr × Obj)} {σ : St} {H : Hp} {s : Shared} {a : Addr} {y v : V} {u r : Value} {o : Option V} {A : Around} {E : Value → Shared → Prop}
end
section
variable {X : Cx} {pins : List (Addr × Obj)} {σ : St} {H : Hp} {s : Shared} {a : Addr} {kvs : List (Key × V)} {k : Key} {u : Value} {A : Around} {E : Value → Shared → Prop}
end
section
variable {X : Cx} {o i e value : Expr} {pos pos' tpos : Pos} {td ty tv : TE}
end
section
variable {X : Cx} {pos : Pos}
end
section
variable {X : Cx} {pins : List (Addr × Obj)} {σ : St} {H : Hp} {s : Shared} {a : Addr} {y d : V} {u r : Value} {o : Option V} {A : Around} {E : Value → Shared → Prop}
end
section
variable {X : Cx} {o e f : Expr} {apos cpos : Pos} {td ty tx : TE}
end
section
variable {X : Cx} {pins : List (Addr × Obj)} {σ : St} {H : Hp} {s : Shared} {a : Addr} {kvs : List (Key × V)} {A : Around} {E : Value → Shared → Prop}
end
section
variable {X : Cx} {pins : List (Addr × Obj)} {σ : St} {H : Hp} {s : Shared} {a : Addr} {y : V} {u : Value} {A : Around} {E : Value → Shared → Prop}
end
end L2
namespace L2
open PySem PySem.Spec PyProof.Rows
section
variable {P : Program} {w : World} {K : PySem.W.Frag} {mg : Str → Option Value} {base : Heap}
end
section
variable {X : Cx}
end
section
variable {κ : Type} [DecidableEq κ]
end
end L2
namespace L2
open PySem PySem.Spec PyProof.Rows
noncomputable def closOf (cells : List (Str × Addr)) : List (Str × NameKind) → List (Str × Addr) → List (Str × Addr)
  | [], acc => acc
  | (n, k) :: r, acc => closOf cells r (if k = .free then (match cells.lookup n with | some a => (n, a) :: acc | none => acc) else acc)
theorem closureFor_go {env : Env} : ∀ (names : List (Str × NameKind)) (acc : List (Str × Addr)), (∀ y ∈ names, y.2 = .free → ∃ c, env.cells.lookup y.1 = some c) →
    (forIn names acc fun (x : Str × NameKind) (r : List (Str × Addr)) =>
      (if (x.2 == NameKind.free) = true then (do let a ← cellOf env x.1; pure (ForInStep.yield ((x.1, a) :: r))) else pure (ForInStep.yield r) : Sem (ForInStep (List (Str × Addr))))) = (pure (closOf env.cells names acc) : Sem (List (Str × Addr)))
  | [], acc, _ => rfl
  | (n, k) :: rest, acc, h => by
    rw [List.forIn_cons]
    have ih := fun acc' => closureFor_go (env := env) rest acc' fun y hy => h y (List.mem_cons_of_mem _ hy)
    by_cases hk : k = .free
    · subst hk
      obtain ⟨c, hc⟩ := h (n, .free) List.mem_cons_self rfl
      have hc : env.cells.lookup n = some c := hc
      have e : cellOf env n = pure c := by unfold cellOf; rw [hc]
      simp only [beq_self_eq_true, if_true, e, pure_bind, closOf, hc]
      exact ih _
    · have hb : (k == NameKind.free) = false := by simpa using hk
      simp only [hb, Bool.false_eq_true, if_false, pure_bind, closOf, if_neg hk]
      exact ih _
theorem closureFor_eq {env : Env} {scope : Scope} (h : ∀ y ∈ scope.names, y.2 = .free → ∃ c, env.cells.lookup y.1 = some c) : closureFor scope env = pure (closOf env.cells scope.names []) := by
  have e := closureFor_go (env := env) scope.names [] h
  unfold closureFor
  simp only [bind_pure_comp, bind_pure, map_pure] at *
  exact e
theorem closOf_sub {cells : List (Str × Addr)} : ∀ (names : List (Str × NameKind)) (acc : List (Str × Addr)), (∀ x c, acc.lookup x = some c → cells.lookup x = some c) → ∀ x c, (closOf cells names acc).lookup x = some c → cells.lookup x = some c
  | [], acc, h, x, c, e => h x c e
  | (n, k) :: r, acc, h, x, c, e => by
    refine closOf_sub r _ ?_ x c e
    intro y d q
    split at q
    · split at q
      · rename_i a ha
        rw [List.lookup_cons] at q
        split at q
        · rename_i hy
          cases q
          rw [eq_of_beq hy]
          exact ha
        · exact h y d q
      · exact h y d q
    · exact h y d q
theorem closOf_has {cells : List (Str × Addr)} : ∀ (names : List (Str × NameKind)) (acc : List (Str × Addr)) (x : Str), (((x, NameKind.free) ∈ names ∧ ∃ c, cells.lookup x = some c) ∨ ∃ c, acc.lookup x = some c) → ∃ c, (closOf cells names acc).lookup x = some c
  | [], acc, x, h => by
    rcases h with ⟨h, _⟩ | h
    · cases h
    · exact h
  | (n, k) :: r, acc, x, h => by
    refine closOf_has r _ x ?_
    have up : (∃ c, acc.lookup x = some c) → ∃ c, (if k = .free then (match cells.lookup n with | some a => (n, a) :: acc | none => acc) else acc).lookup x = some c := by
      rintro ⟨c, hc⟩
      split
      · split
        · rename_i a ha
          rw [List.lookup_cons]
          split
          · exact ⟨_, rfl⟩
          · exact ⟨c, hc⟩
        · exact ⟨c, hc⟩
      · exact ⟨c, hc⟩
    rcases h with ⟨h, c, hc⟩ | h
    · rcases List.mem_cons.mp h with e | e
      · cases e
        right
        refine ⟨c, ?_⟩
        rw [if_pos rfl, hc, List.lookup_cons, beq_self_eq_true]
      · exact .inl ⟨e, c, hc⟩
    · exact .inr (up h)
theorem lookup_rel (env : Env) (x : Str) : ∀ names : List (Str × NameKind),
    (names.map fun (n, k) => if (k == NameKind.free && env.scope.kind == .function && env.kindOf n == some .cell) then (n, NameKind.cell) else (n, k)).lookup x =
      (names.lookup x).map fun k => if (k == NameKind.free && env.scope.kind == .function && env.kindOf x == some .cell) = true then NameKind.cell else k
  | [] => rfl
  | (n, k) :: r => by
    have ih := lookup_rel env x r
    show List.lookup x ((if (k == NameKind.free && env.scope.kind == .function && env.kindOf n == some .cell) = true then (n, NameKind.cell) else (n, k)) :: _) = _
    cases hx : x == n with
    | true =>
      have e : x = n := eq_of_beq hx
      subst e
      by_cases hc : (k == NameKind.free && env.scope.kind == .function && env.kindOf x == some .cell) = true
      · rw [if_pos hc, List.lookup_cons, List.lookup_cons, beq_self_eq_true]
        simp only [Option.map_some, if_pos hc]
      · rw [if_neg hc, List.lookup_cons, List.lookup_cons, beq_self_eq_true]
        simp only [Option.map_some, if_neg hc]
    | false =>
      have e : (List.lookup x ((n, k) :: r)) = List.lookup x r := by rw [List.lookup_cons, hx]
      rw [e, ← ih]
      split <;> rw [List.lookup_cons, hx]
set_option genInjectivity false in
structure BlkScope (X : Cx) (scope : Scope) (own : List Str) (fr : List (Str × Nat)) : Prop where
  kind : scope.kind = .function
  nocell : ∀ y ∈ scope.names, y.2 ≠ .cell
  loc : ∀ y ∈ scope.names, y.2 = .local → scope.names.lookup y.1 = some .local
  free : ∀ y ∈ scope.names, y.2 = .free → (X.env.scope.names.lookup y.1 = some .cell ∨ X.env.scope.names.lookup y.1 = some .free)
  fr : ∀ p ∈ fr, X.N[p.2]? = some p.1 ∧ (p.1, NameKind.free) ∈ scope.names
  only : ∀ x, (x, NameKind.free) ∈ scope.names → scope.names.lookup x = some .free
noncomputable def blkCx (X : Cx) (scope : Scope) (own : List Str) (fr : List (Str × Nat)) (C : Addr) (ex : List Addr) (s : Shared) (H : Hp) : Cx where
  prog := X.prog
  w := X.w
  K := X.K
  mg := X.mg
  base := X.base
  A := X.A
  N := own ++ fr.map (·.1)
  s₀ := s
  H₀ := H
  env := compEnvC scope (closOf X.env.cells scope.names []) C X.env
  outer := X.stack
  stack := X.stack
  ex := ex
  fn := fun _ => false
  calm := X.calm
  pn := []
  xe := fun _ _ => False
noncomputable def blkSt (own : List Str) (fr : List (Str × Nat)) (σ : St) : St := own.map (fun _ => none) ++ fr.map (fun p => (σ[p.2]?).getD none)
section
variable {X : Cx} {pins : List (Addr × Obj)} {σ : St} {H : Hp} {s : Shared} {scope : Scope} {own : List Str} {fr : List (Str × Nat)} {fp : List Addr}
theorem BlkScope.cells (S : BlkScope X scope own fr) (ok : X.Ok) : ∀ y ∈ scope.names, y.2 = .free → ∃ c, X.env.cells.lookup y.1 = some c := fun y hy e => ok.has y.1 (S.free y hy e)
theorem Inv.block {h' : Heap} {t' : Nat} {m : Str → Option Value} (I : Inv X pins σ H s) (S : BlkScope X scope own fr) (hf : ∀ b ∈ fp, FpOk X pins H b) (hlt : ∀ b ∈ fp, b < s.heap.objs.size)
    (hns : h'.Ns s.heap.objs.size m) (k : ∀ b o, s.heap.get? b = some o → h'.get? b = some o) :
    Inv (blkCx X scope own fr s.heap.objs.size fp s H) [] (blkSt own fr σ) H { s with heap := h', toks := t' } := by
  have cs : ∀ x c, (closOf X.env.cells scope.names []).lookup x = some c → X.env.cells.lookup x = some c := closOf_sub _ _ (fun _ _ e => by simp at e)
  have ck : ∀ c v, s.heap.IsCell c v → h'.IsCell c v := fun c v ⟨o, ho, hd⟩ => ⟨o, k _ _ ho, hd⟩
  have kf : ∀ x, (x, NameKind.free) ∈ scope.names → ∃ c, X.env.cells.lookup x = some c ∧ (closOf X.env.cells scope.names []).lookup x = some c := fun x hx => by
    obtain ⟨c0, e0⟩ := S.cells I.ok (x, .free) hx rfl
    obtain ⟨c, e⟩ := closOf_has (cells := X.env.cells) scope.names [] x (.inl ⟨hx, c0, e0⟩)
    exact ⟨c, cs _ _ e, e⟩
  have rel : ∀ x, (compEnvC scope (closOf X.env.cells scope.names []) s.heap.objs.size X.env).kindOf x = (scope.names.lookup x).map fun k => if (k == NameKind.free && X.env.scope.kind == .function && X.env.kindOf x == some .cell) = true then NameKind.cell else k := fun x => lookup_rel X.env x scope.names
  have nc : ∀ x, scope.names.lookup x ≠ some .cell := fun x e => S.nocell _ (PySem.mem_of_lookup e) rfl
  refine ⟨⟨I.ok.mod, S.kind, I.ok.glob, I.ok.blt, Nat.le_refl _, fun x y c e1 e2 => I.ok.inj x y c (cs _ _ e1) (cs _ _ e2), fun x hx => ?_, fun x c e _ => (nomatch e), I.ok.hd, I.ok.frames, .inl rfl,
    fun b hb => ⟨Nat.ne_of_lt (hlt b hb), fun x c e => (hf b hb).2.2.2.2.1 x c (cs _ _ e)⟩, I.bs, Nat.le_trans I.ok.bsz I.sz, fun b o e hb => ?_, fun b hb z => (List.mem_cons.mp (I.stkSub b z)).elim (hf b hb).2.1 (hf b hb).2.2.1, I.stack, I.stkFree⟩,
    rfl, I.bare, Un.kept k, ⟨m, hns, fun i x v e1 e2 e3 => ?_⟩, fun x c e => ?_, I.hok.fresh (Nat.le_refl _), fun x c e => I.freeC x c (cs _ _ e), fun p hp => absurd (show p ∈ ([] : List (Addr × Obj)) from hp) (by simp), I.hok.kept k, ?_⟩
  · have hx : (compEnvC scope (closOf X.env.cells scope.names []) s.heap.objs.size X.env).kindOf x = some .cell ∨ (compEnvC scope (closOf X.env.cells scope.names []) s.heap.objs.size X.env).kindOf x = some .free := hx
    rw [rel x] at hx
    have q : scope.names.lookup x = some .free := by
      cases e : scope.names.lookup x with
      | none => rw [e] at hx; simp at hx
      | some kk =>
        rw [e] at hx
        simp only [Option.map_some, Option.some.injEq] at hx
        by_cases hk : kk = .free
        · rw [hk]
        · have hb : (kk == NameKind.free) = false := by simpa using hk
          simp only [hb, Bool.false_and, Bool.false_eq_true, if_false] at hx
          rcases hx with hx | hx
          · rw [hx] at e; exact absurd e (nc x)
          · exact absurd hx hk
    obtain ⟨c, _, e⟩ := kf x (PySem.mem_of_lookup q)
    exact ⟨c, e⟩
  · rcases (hf b hb).2.2.2.1 with z | z
    · exact I.ok.noex b o e z
    · exact absurd (Nat.lt_of_lt_of_le (Heap.lt_size (I.ok.bs b o e).1) z) (Nat.lt_irrefl _)
  · have e1 : (own ++ fr.map (·.1))[i]? = some x := e1
    have e2 : (blkSt own fr σ)[i]? = some (some v) := e2
    unfold blkSt at e2
    by_cases hi : i < own.length
    · rw [List.getElem?_append_left (by simpa using hi), List.getElem?_map] at e2
      rw [List.getElem?_eq_getElem hi] at e2
      simp at e2
    · rw [List.getElem?_append_right (by simpa using hi), List.getElem?_map, List.length_map] at e2
      rw [List.getElem?_append_right (by (first | assumption | decide | omega)), List.getElem?_map] at e1
      cases ep : fr[i - own.length]? with
      | none => rw [ep] at e1; simp at e1
      | some p =>
        rw [ep] at e1 e2
        simp only [Option.map_some, Option.some.injEq] at e1 e2
        subst e1
        obtain ⟨h1, h2⟩ := S.fr p (List.mem_of_getElem? ep)
        have e4 : σ[p.2]? = some (some v) := by
          cases q : σ[p.2]? with
          | none => rw [q] at e2; simp at e2
          | some z => rw [q] at e2; simp at e2; rw [e2]
        have kx := S.free _ h2 rfl
        obtain ⟨m0, hn0, hl0⟩ := I.loc
        obtain ⟨u, r, l⟩ := hl0 p.2 p.1 v h1 e4 (kx.elim (fun z => .inr (.inl z)) fun z => .inr (.inr z))
        refine ⟨u, r, ?_⟩
        rcases l with ⟨z, _⟩ | ⟨_, c, hc, hcell⟩
        · have z : X.env.scope.names.lookup p.1 = some .local := z
          rcases kx with y | y <;> (rw [y] at z; cases z)
        · obtain ⟨c', q1, q2⟩ := kf p.1 h2
          rw [hc] at q1
          cases q1
          refine .inr ⟨?_, c, q2, ck _ _ hcell⟩
          show (compEnvC scope (closOf X.env.cells scope.names []) s.heap.objs.size X.env).kindOf p.1 = some .cell ∨ (compEnvC scope (closOf X.env.cells scope.names []) s.heap.objs.size X.env).kindOf p.1 = some .free
          have e3 : (compEnvC scope (closOf X.env.cells scope.names []) s.heap.objs.size X.env).kindOf p.1 = some .local ∨ (compEnvC scope (closOf X.env.cells scope.names []) s.heap.objs.size X.env).kindOf p.1 = some .cell ∨ (compEnvC scope (closOf X.env.cells scope.names []) s.heap.objs.size X.env).kindOf p.1 = some .free := e3
          rcases e3 with e3 | e3
          · exfalso
            rw [rel] at e3
            cases e : scope.names.lookup p.1 with
            | none => rw [e] at e3; cases e3
            | some kk =>
              rw [e] at e3
              simp only [Option.map_some, Option.some.injEq] at e3
              by_cases hk : kk = .free
              · subst hk; split at e3 <;> cases e3
              · have hb : (kk == NameKind.free) = false := by simpa using hk
                simp only [hb, Bool.false_and, Bool.false_eq_true, if_false] at e3
                subst e3
                have := S.only p.1 h2
                rw [this] at e
                cases e
          · exact e3
  · obtain ⟨v, z⟩ := I.cell x c (cs _ _ e)
    exact ⟨v, ck _ _ z⟩
  · unfold blkSt
    show _ = (own ++ fr.map (·.1)).length
    simp
end
end L2
namespace L2
open PySem PySem.Spec PyProof.Rows
theorem compLoop_go {prog : Program} {w : World} {A : Around} {R : Result → Shared → Prop} {s : Shared} {elt target iter : Expr} {ifs : List Expr} {scope : Scope} {pos : Pos} {it acc : Value} {env : Env} (I : Nat → Shared → Prop)
    (turn : ∀ n s, I n s → wpAny (model prog w) A (pyNext it) (fun r s₁ => match r with
      | none => R (.ok .next) s₁
      | some v => wpAny (model prog w) A (letOwnedTupleGo target it v) (fun _ s₁' => wpAny (model prog w) A (assign target env v) (fun _ s₂ =>
          wpAny (model prog w) A (forIn ifs true fun c r => if r = true then do let ok ← isTrue c env (eval c env); pure (ForInStep.yield ok) else pure (ForInStep.yield r)) (fun ok s₃ =>
            if ok = true then wpAny (model prog w) A (eval elt env) (fun x s₄ =>
              wpAny (model prog w) A (call (.builtin "list.append") [acc, x]) (fun _ s₅ => ∃ m, m < n ∧ I m s₅) (fun _ _ => False) s₄) (fun _ _ => False) s₃
            else ∃ m, m < n ∧ I m s₃) (fun _ _ => False) s₂) (fun _ _ => False) s₁') (fun _ _ => False) s₁) (fun _ _ => False) s)
    (n : Nat) (h : I n s) : codeAny (model prog w) A (.compLoop (.ListComp elt [⟨target, iter, ifs, 0⟩] scope pos) 0 it acc env) R s := by
  refine codeAny_loop rfl I (fun n s hI => ?_) n h
  show wpAny _ A ((compTurn (.ListComp elt [⟨target, iter, ifs, 0⟩] scope pos) 0 it acc env).onRaise (fun x => do noteFrame x env; theTreesLotGoes x)) _ _ s
  refine wpAny_noted ?_
  rw [compTurn_list]
  refine wpAny_bind (wpAny_standAt (wpAny_bind (wpAny_mono (turn n s hI) (fun r s₁ h₁ => ?_) fun _ _ f => f.elim)))
  cases r with
  | none => exact wpAny_pure h₁
  | some v =>
    refine wpAny_bind (wpAny_mono h₁ (fun _ s₁' h₁' => wpAny_bind (wpAny_mono h₁' (fun _ s₂ h₂ => wpAny_bind (wpAny_mono h₂ (fun ok s₃ h₃ => ?_) fun _ _ f => f.elim)) fun _ _ f => f.elim)) fun _ _ f => f.elim)
    cases ok with
    | false => exact wpAny_pure ⟨rfl, h₃⟩
    | true =>
      exact wpAny_bind (wpAny_bind (wpAny_mono h₃ (fun x s₄ h₄ => wpAny_bind (wpAny_mono h₄ (fun _ s₅ h₅ => wpAny_pure (wpAny_pure ⟨rfl, h₅⟩)) fun _ _ f => f.elim)) fun _ _ f => f.elim))
section
variable {X : Cx}
noncomputable def PTs (X : Cx) (ifs : List Expr) (tc : TT) : Prop :=
  ∀ (pins : List (Addr × Obj)) (s : Shared) (σ : St) (H : Hp) (Q : Bool → Hp → Prop), Inv X pins σ H s → tc σ H Q →
    wpAny (model X.prog X.w) X.A (forIn ifs true fun c r => if r = true then do let ok ← isTrue c X.env (eval c X.env); pure (ForInStep.yield ok) else pure (ForInStep.yield r)) (TP X pins σ Q) X.xe s
noncomputable def tYes : TT := fun _ H Q => Q true H
theorem pts_nil : PTs X [] tYes := fun _ _ _ H _ I h => wpAny_tests_nil ⟨H, I, h⟩
theorem pts_one {c : Expr} {tc : TT} (h : PT X c tc) : PTs X [c] tc := fun pins s σ H Q I q => wpAny_tests_one (h pins s σ H Q I q)
noncomputable def Kp (σ0 σ : St) : Prop := σ.length = σ0.length ∧ ∀ (i : Nat) (v : V), σ0[i]? = some (some v) → σ[i]? = some (some v)
theorem Kp.refl (σ : St) : Kp σ σ := ⟨rfl, fun _ _ h => h⟩
theorem Kp.set {σ0 σ : St} {i : Nat} {v : V} (k : Kp σ0 σ) (h : σ0[i]? = some none) : Kp σ0 (σ.set i (some v)) := by
  refine ⟨by rw [List.length_set]; exact k.1, fun j u e => ?_⟩
  by_cases hj : i = j
  · subst hj; rw [h] at e; cases e
  · rw [List.getElem?_set_ne hj]; exact k.2 j u e
noncomputable def CompW (J : It) (σ0 : St) (g : TG) (tc : TT) (te : TE) (Q : VK) (H1 : Hp) (D : Addr) : Prop :=
  ∃ W : Nat → Nat → List V → Hp → Prop, (∃ m, W 0 m [] (upd H1 D (.lst []))) ∧ ∀ i m ys H, W i m ys H →
    (J.stop i H ∧ Q (.ref D) H) ∨ (J.go i H ∧ ∃ N : List V → Hp → Prop, (∀ ys' H', N ys' H' → ∃ m', m' < m ∧ W (i + 1) m' ys' H') ∧ ∀ x H', J.yld i H x H' → g x σ0 H' fun σ2 H2 => Kp σ0 σ2 ∧ tc σ2 H2 fun b H3 =>
      if b = true then te σ2 H3 fun y H4 => H4 D = some (.lst ys) ∧ ys.length < sizeLine ∧ N (ys ++ [y]) (upd H4 D (.lst (ys ++ [y]))) else N ys H3)
noncomputable def tComp (wi : TI) (own : List Str) (fr : List (Str × Nat)) (g : TG) (tc : TT) (te : TE) : TE := fun σ H Q => wi σ H fun J H1 => ∀ D, H1 D = none → CompW J (blkSt own fr σ) g tc te Q H1 D
theorem comp_run {elt tg iter : Expr} {ifs : List Expr} {scope : Scope} {pos : Pos} {own : List Str} {fr : List (Str × Nat)} {g : TG} {tc : TT} {te : TE} (hc : X.calm = true) (S : BlkScope X scope own fr)
    (hg : ∀ C ex s H, PG (blkCx X scope own fr C ex s H) tg g) (ht : ∀ C ex s H, PTs (blkCx X scope own fr C ex s H) ifs tc) (he : ∀ C ex s H, PE (blkCx X scope own fr C ex s H) elt te)
    {pins : List (Addr × Obj)} {σ : St} {H : Hp} {s : Shared} {it : Addr} {fp : List Addr} {tn : Nat → Heap → Prop} {J : It} {E : Value → Shared → Prop}
    (I : Inv X pins σ H s) (T : Turn X.prog X.w X.K tg J fp it tn) (st : tn 0 s.heap) (hf : ∀ b ∈ fp, FpOk X pins H b) {Q : VK}
    (h : ∀ D, H D = none → CompW J (blkSt own fr σ) g tc te Q H D)
    {RR : Value → Addr → Result → Shared → Prop}
    (hR : ∀ D C H' s', Inv X pins σ H' s' → (∃ m, s'.heap.Ns C m) → FpOk X pins H' C → Q (.ref D) H' → RR (.ref D) C (.ok .next) s') :
    wpAny (model X.prog X.w) X.A (newList []) (fun acc s₃ => wpAny (model X.prog X.w) X.A (newFunctionEnv scope X.env.globals (closOf X.env.cells scope.names []) [] X.env.qual none .none (some X.env)) (fun cenv s₄ =>
      codeAny (model X.prog X.w) X.A (.compStart (.ListComp elt [⟨tg, iter, ifs, 0⟩] scope pos) 0 (.ref it) acc { cenv with scope := relabel scope X.env }) (RR acc cenv.locals) s₄) E s₃) E s := by
  have hDn : H s.heap.objs.size = none := I.fresh
  obtain ⟨W, ⟨m0, w0⟩, turn⟩ := h s.heap.objs.size hDn
  have I3 : Inv X pins σ (upd H s.heap.objs.size (.lst [])) { s with heap := s.heap.push { cls := .type "list", data := .seq ([] : List Value).toArray }, toks := s.toks } := I.lnew .nil (Nat.zero_le _)
  refine wpAny_newObj_type ?_
  generalize hs3 : ({ s with heap := s.heap.push { cls := .type "list", data := .seq ([] : List Value).toArray } } : Shared) = s3 at I3 ⊢
  have I3 : Inv X pins σ (upd H s.heap.objs.size (.lst [])) s3 := I3
  have old3 : ∀ b o, s.heap.get? b = some o → s3.heap.get? b = some o := fun b o e => by rw [← hs3]; exact Heap.get?_push_of_some _ e
  have hobj : ∀ b ∈ fp, ∃ o, s.heap.get? b = some o ∧ ∀ v, o.data ≠ .cell v := T.obj 0 _ st
  have hne : ∀ b ∈ fp, b ≠ s.heap.objs.size := fun b hb => by obtain ⟨o, e, _⟩ := hobj b hb; exact Nat.ne_of_lt (Heap.lt_size e)
  have hf3 : ∀ b ∈ fp, FpOk X pins (upd H s.heap.objs.size (.lst [])) b := fun b hb => ⟨by rw [upd_ne (hne b hb)]; exact (hf b hb).1, (hf b hb).2⟩
  have hlt3 : ∀ b ∈ fp, b < s3.heap.objs.size := fun b hb => by obtain ⟨o, e, _⟩ := hobj b hb; exact Heap.lt_size (old3 b o e)
  refine wpAny_newFunctionEnv S.nocell (by intro y hy; simp at hy) (fun h₁ hns hsb => ?_) S.kind
  have keep : ∀ b o, s3.heap.get? b = some o → h₁.get? b = some o := fun b o e => hsb.extBut b o (Nat.ne_of_lt (Heap.lt_size e)) (Heap.get?_push_of_some _ e)
  have J0 := I3.block (t' := s3.toks + ([] : List (Str × Value)).length) S hf3 hlt3 hns keep
  have st3 : tn 0 h₁ := T.keep 0 _ _ st fun b hb o e => keep b o (old3 b o e)
  have loop : codeAny (model X.prog X.w) X.A (.compLoop (.ListComp elt [⟨tg, iter, ifs, 0⟩] scope pos) 0 (.ref it) (.ref s.heap.objs.size) (compEnvC scope (closOf X.env.cells scope.names []) s3.heap.objs.size X.env))
      (RR (.ref s.heap.objs.size) s3.heap.objs.size) { s3 with heap := h₁, toks := s3.toks + ([] : List (Str × Value)).length } := by
    have stat : ∀ {H' : Hp}, (∀ b ∈ fp, H' b = none) → ∀ b ∈ fp, FpOk (blkCx X scope own fr s3.heap.objs.size fp s3 (upd H s.heap.objs.size (.lst []))) [] H' b := fun {H'} hn b hb =>
      ⟨hn b hb, Nat.ne_of_lt (hlt3 b hb), J0.ok.exfs b hb, .inl hb, (J0.ok.exf b hb).2, fun p hp => absurd (show p ∈ ([] : List (Addr × Obj)) from hp) (by simp)⟩
    refine compLoop_go (fun n s' => ∃ i ys H', Inv (blkCx X scope own fr s3.heap.objs.size fp s3 (upd H s.heap.objs.size (.lst []))) [] (blkSt own fr σ) H' s' ∧ tn i s'.heap ∧ (∀ b ∈ fp, H' b = none) ∧ W i n ys H') ?_ m0
      ⟨0, [], _, J0, st3, fun b hb => (hf3 b hb).1, w0⟩
    rintro n s4 ⟨i, ys, H4, I4, st4, fr4, w4⟩
    rcases turn i n ys H4 w4 with ⟨stop, q⟩ | ⟨go, N, hN, step⟩
    · refine thn (T.done (blkCx X scope own fr s3.heap.objs.size fp s3 (upd H s.heap.objs.size (.lst []))) rfl rfl rfl hc i [] s4 _ H4 (fun _ _ => False) I4 (stat fr4) st4 stop) fun r s5 ⟨hr, I5⟩ => ?_
      subst hr
      obtain ⟨m, hn, _⟩ := id I5.loc
      exact hR _ _ H4 s5 (I3.call' I5.os I5.base I5.hok I5.bare fun b hb => ⟨(hf3 b hb).2.2.2.1, (hf3 b hb).2.1, (hf3 b hb).2.2.2.2.1, (hf3 b hb).2.2.2.2.2⟩) ⟨m, hn⟩ (I3.fpOk (Nat.le_refl _) I5.free) q
    · refine thn (T.item (blkCx X scope own fr s3.heap.objs.size fp s3 (upd H s.heap.objs.size (.lst []))) rfl rfl rfl hc i [] s4 _ H4 (fun _ _ => False) I4 (stat fr4) st4 go) fun r s5 ⟨u, hr, h5⟩ => ?_
      subst hr
      refine thn h5 fun _ s6 zPt => ?_
      obtain ⟨x, H6, I6, r6, y6, st6, fr6⟩ := zPt
      have I6' := I6.pinned (stat fr6) (T.obj _ _ st6)
      refine thn (hg _ _ _ _ _ s6 _ H6 x u _ I6' r6 (step x H6 y6)) fun _ s7 zPt => ?_
      obtain ⟨σ7, H7, I7, kp, q7⟩ := zPt
      refine thn (ht _ _ _ _ _ s7 σ7 H7 _ I7 q7) fun b s8 ⟨H8, I8, q8⟩ => ?_
      have again : ∀ {s9 : Shared} {H9 : Hp} {ys' : List V}, Inv (blkCx X scope own fr s3.heap.objs.size fp s3 (upd H s.heap.objs.size (.lst []))) ([] ++ pinsAt fp s6.heap) σ7 H9 s9 → N ys' H9 →
          ∃ m, m < n ∧ ∃ i ys H', Inv (blkCx X scope own fr s3.heap.objs.size fp s3 (upd H s.heap.objs.size (.lst []))) [] (blkSt own fr σ) H' s9 ∧ tn i s9.heap ∧ (∀ b ∈ fp, H' b = none) ∧ W i m ys H' := fun {s9 H9 ys'} I9 n9 => by
        obtain ⟨m', hm, w9⟩ := hN ys' H9 n9
        refine ⟨m', hm, i + 1, ys', H9, I9.unpinned.weak kp.1.symm kp.2, T.keep _ _ _ st6 fun b hb o e => (I9.pin (b, o) (List.mem_append_right _ (List.mem_append_right _ (mem_pinsAt hb e)))).1, fun b hb => ?_, w9⟩
        obtain ⟨o, e, d⟩ := T.obj _ _ st6 b hb
        exact (I9.pin (b, o) (List.mem_append_right _ (List.mem_append_right _ (mem_pinsAt hb e)))).2.1
      cases b with
      | false =>
        rw [if_neg Bool.false_ne_true] at q8 ⊢
        exact again I8 q8
      | true =>
        rw [if_pos rfl] at q8 ⊢
        refine thn (he _ _ _ _ _ s8 σ7 H8 _ I8 q8) fun xv s9 zPt => ?_
        obtain ⟨y, H9, I9, r9, hD, hl, n9⟩ := zPt
        refine thn (mt_append _ s9 σ7 H9 (.ref s.heap.objs.size) [y] (.ref s.heap.objs.size) [xv] (fun _ H' => H' = upd H9 s.heap.objs.size (.lst (ys ++ [y]))) I9 rfl (.cons r9 .nil) ⟨_, ys, y, rfl, rfl, hD, hl, rfl⟩) fun _ s10 zPt => ?_
        obtain ⟨_, H10, I10, _, q10⟩ := zPt
        subst q10
        exact again I10 n9
  exact codeAny_compStart_list loop (T.self _ 0 _ _ _ st3 loop)
theorem pe_comp {elt tg iter : Expr} {ifs : List Expr} {scope : Scope} {pos : Pos} {own : List Str} {fr : List (Str × Nat)} {wi : TI} {g : TG} {tc : TT} {te : TE} (hc : X.calm = true) (S : BlkScope X scope own fr) (hi : PI X tg iter wi)
    (hg : ∀ C ex s H, PG (blkCx X scope own fr C ex s H) tg g) (ht : ∀ C ex s H, PTs (blkCx X scope own fr C ex s H) ifs tc) (he : ∀ C ex s H, PE (blkCx X scope own fr C ex s H) elt te)
    (hs : ∀ x, foldedSetIterable iter X.env x = pure x := by intro _; rfl) : PE X (.ListComp elt [⟨tg, iter, ifs, 0⟩] scope pos) (tComp wi own fr g tc te) := by
  intro pins s σ H Q I h
  rw [eval_ListComp]
  refine wpAny_comprehension_free (use := none) rfl hs (closureFor_eq (S.cells I.ok)) S.kind S.loc (thn (hi pins s σ H _ I h) fun xv s₁ h₁ => thn h₁ fun itv s₂ h₂ => ?_)
  obtain ⟨it, fp, tn, J, H2, rfl, I2, T, st2, f2, h2⟩ := h₂
  refine comp_run (RR := fun acc C => compPost (model X.prog X.w) X.A X.xe none (EP X pins σ Q) acc C) hc S hg ht he I2 T st2 f2 h2 ?_
  rintro D C H' s' I' ⟨m, hn⟩ f q
  exact ⟨m, hn, fun h' sb => ⟨.ref D, H', I'.turned (t' := s'.toks) (it := C) (fun b o hb e => (sb.2 b hb).trans e) f.1 f.2.1 f.2.2.2.1 f.2.2.2.2.1 f.2.2.2.2.2, rfl, q⟩⟩
theorem ps_comp {i : Nat} {x : Str} {px spos : Pos} {elt tg iter : Expr} {ifs : List Expr} {scope : Scope} {pos : Pos} {own : List Str} {fr : List (Str × Nat)} {wi : TI} {g : TG} {tc : TT} {te : TE} (hN : X.N.Nodup) (hix : X.N[i]? = some x) (hx : Loc X.env.scope x)
    (hc : X.calm = true) (S : BlkScope X scope own fr) (hi : PI X tg iter wi)
    (hg : ∀ C ex s H, PG (blkCx X scope own fr C ex s H) tg g) (ht : ∀ C ex s H, PTs (blkCx X scope own fr C ex s H) ifs tc) (he : ∀ C ex s H, PE (blkCx X scope own fr C ex s H) elt te)
    (hsw : swapsWith (.ListComp elt [⟨tg, iter, ifs, 0⟩] scope pos) (some (.Name x px)) spos.line X.env = pure true := by rfl)
    (hf : X.fn x = true ∨ X.env.scope.names.lookup x = some .local := by first | exact .inl rfl | exact .inr rfl | assumption)
    (hs : ∀ x, foldedSetIterable iter X.env x = pure x := by intro _; rfl) : PS X (.Assign [.Name x px] (.ListComp elt [⟨tg, iter, ifs, 0⟩] scope pos) spos) (tAsg (tComp wi own fr g tc te) (gName i)) := by
  intro pins s σ H D I h
  rw [exec_Assign_Name_used _ _ _ _ hsw]
  refine wpAny_bind (wpAny_standAt (wpAny_bind ?_))
  show wpAny _ X.A (do let _ ← comprehension (.ListComp elt [⟨tg, iter, ifs, 0⟩] scope pos) scope X.env _ (newList []) false (eval iter X.env) (some (assign (.Name x px) X.env))) _ _ s
  refine wpAny_bind (wpAny_mono (wpAny_comprehension_free (use := some (assign (.Name x px) X.env)) (Q := fun _ s' => SP X pins D .next s') rfl hs (closureFor_eq (S.cells I.ok)) S.kind S.loc
    (thn (hi pins s σ H _ I h) fun xv s₁ h₁ => thn h₁ fun itv s₂ h₂ => ?_)) (fun _ s' hq => wpAny_pure (wpAny_pure hq)) fun _ _ e => e)
  obtain ⟨it, fp, tn, J, H2, rfl, I2, T, st2, f2, h2⟩ := h₂
  refine comp_run (Q := fun x H1 => gName i x σ H1 D.nx) (RR := fun acc C => compPost (model X.prog X.w) X.A X.xe (some (assign (.Name x px) X.env)) (fun _ s' => SP X pins D .next s') acc C) hc S hg ht he I2 T st2 f2 h2 ?_
  rintro Dl C H' s' I' ⟨m, hn⟩ f q
  obtain ⟨o, es, ep, ho, hd, r⟩ := hn
  have pinC : ∀ v, o.data ≠ .cell v := fun v z => by rw [hd] at z; cases z
  have I'' : Inv X (pins ++ [(C, o)]) σ H' s' := I'.pins_of fun p hp => (List.mem_append.mp hp).elim (fun z => I'.pin p (List.mem_append_right _ z)) fun z => by
    have e : p = (C, o) := by simpa using z
    subst e
    exact ⟨ho, f.1, f.2.1, f.2.2.1, pinC⟩
  show wpAny _ X.A (assign (.Name x px) X.env (.ref Dl)) _ _ s'
  refine wpAny_assign_Name (store_ok I'' hN hix hx (v := .ref Dl) rfl (fun s2 I2 => ?_) hf)
  have pc := (I2.pin (C, o) (List.mem_append_right _ (List.mem_append_right _ (by simp)))).1
  refine ⟨m, ⟨o, es, ep, pc, hd, r⟩, fun h' sb => ⟨_, H', ?_, q⟩⟩
  exact (I2.unpinned (pl := [(C, o)])).turned (t' := s2.toks) (it := C) (fun b o hb e => (sb.2 b hb).trans e) f.1 f.2.1 f.2.2.2.1 f.2.2.2.2.1 f.2.2.2.2.2
end
section
variable {X : Cx} {tg : Expr}
end
end L2
namespace L2
open PySem PySem.Spec PyProof.Rows
section
variable {X : Cx}
theorem fst_of_ints : ∀ {ns : List Int} {l : List (Int × Tok)}, Vals (ns.map V.int) (l.map fun p => Value.int p.1 p.2) → l.map (·.1) = ns
  | [], [], _ => rfl
  | n :: ns, p :: l, r => by
    cases r with
    | cons r1 r2 =>
      obtain ⟨t, e⟩ := r1
      injection e with e1 e2
      rw [List.map_cons, fst_of_ints r2, e1]
  | [], _ :: _, r => by cases r
  | _ :: _, [], r => by cases r
theorem call_sum (hc : X.calm = true) : CallR X (.builtin "sum") (fun xs H Q => ∃ (p : Addr) (ns : List Int), xs = [.ref p] ∧ SqL X.K H p (ns.map V.int) ∧ Q (.int ns.sum) H) := by
  intro pins s σ H xs us Q I r h
  obtain ⟨p, ns, rfl, hq, q⟩ := h
  obtain ⟨u, rfl, rx⟩ := vals1 r
  cases rx
  obtain ⟨its, rv, pl, _⟩ := I.list hq
  obtain ⟨ps, e⟩ := (IntsAre.allInts (intsAre_of rv)).items
  have e' : its = ps.toList.map fun p => Value.int p.1 p.2 := by
    have := congrArg Array.toList e
    simpa [intItems] using this
  have hl := pl.isList
  rw [e] at hl
  refine sum_intListG (I.ok.hd hc) hl fun h' tk t' hk => ?_
  have es : preSum (numAt ps) ps.size = ns.sum := by
    rw [preSum_eq, List.take_of_length_le (by simp), fst_of_ints (ns := ns) (l := ps.toList) (by rw [← e']; exact rv)]
  rw [es]
  exact ⟨.int ns.sum, H, I.kept hk, ⟨t', rfl⟩, q⟩
theorem all_range (bs : List Bool) : (List.range bs.length).all (fun i => bs.getD i true) = bs.all id := by
  rw [Bool.eq_iff_iff, List.all_eq_true, List.all_eq_true]
  constructor
  · intro h b hb
    obtain ⟨i, hi, rfl⟩ := List.getElem_of_mem hb
    have := h i (by simpa using hi)
    rw [List.getD_eq_getElem?_getD, List.getElem?_eq_getElem hi] at this
    exact this
  · intro h i hi
    have hi : i < bs.length := by simpa using hi
    rw [List.getD_eq_getElem?_getD, List.getElem?_eq_getElem hi]
    exact h _ (List.getElem_mem hi)
theorem call_all (hc : X.calm = true) : CallR X (.builtin "all") (fun xs H Q => ∃ (p : Addr) (bs : List Bool), xs = [.ref p] ∧ SqL X.K H p (bs.map V.bl) ∧ Q (.bl (bs.all id)) H) := by
  intro pins s σ H xs us Q I r h
  obtain ⟨p, bs, rfl, hq, q⟩ := h
  obtain ⟨u, rfl, rx⟩ := vals1 r
  cases rx
  obtain ⟨its, rv, pl, _⟩ := I.list hq
  have hl := rv.length
  rw [List.length_map] at hl
  obtain ⟨o, ho, _⟩ := id pl.isList
  have hne : p ≠ s.heap.objs.size := Nat.ne_of_lt (Heap.lt_size ho)
  refine call_all_walk (wpAny_pyIter_list pl.isList ?_)
  refine ⟨s.heap.objs.size, _, _, _, _, _, fun i => bs.getD i true, rfl, Walks.list (A := X.A.in1) (I.ok.hd hc) _ p hne its.toArray, ⟨⟨_, Heap.get?_push_size _ rfl, rfl, rfl⟩, pl.isList.at fun o e => Heap.get?_push_of_some _ e⟩, ?_, fun h' tk hk => ?_⟩
  · intro i v s' Q' E' hv hQ'
    have hv : its[i]? = some v := by simpa using hv
    have hi : i < bs.length := by rw [hl]; exact (List.getElem?_eq_some_iff.mp hv).1
    obtain ⟨u, hu, ru⟩ := rv.get (i := i) (x := .bl (bs.getD i true)) (by rw [List.getElem?_map, List.getD_eq_getElem?_getD, List.getElem?_eq_getElem hi]; rfl)
    rw [hu] at hv
    cases hv
    cases ru
    exact wpAny_truthy_bool hQ'
  · have e : its.toArray.size = bs.length := by rw [List.size_toArray]; exact hl.symm
    rw [e, all_range]
    exact ⟨.bl _, H, I.kept fun b o e => hk b o (fun z => by simp at z; exact absurd (Heap.lt_size e) (by rw [z]; exact Nat.lt_irrefl _)) (Heap.get?_push_of_some _ e), rfl, q⟩
theorem call_isinst : CallR X (.builtin "isinstance") (fun xs H Q => ∃ x n t b, xs = [x, .ty n] ∧ TyOf X.K H x t ∧ PySem.W.kitOne X.K t (.type n) = some b ∧ Q (.bl b) H) := by
  intro pins s σ H xs us Q I r h
  obtain ⟨x, n, t, b, rfl, ty, e, q⟩ := h
  obtain ⟨u, c, rfl, rx, rc⟩ := vals2 r
  cases rc
  exact isinst_ok I rx ty e fun tk => ⟨.bl b, H, I.tok tk, rfl, q⟩
noncomputable def rCatS (K : PySem.W.Frag) : R2 := fun x y H Q => ∃ l b xs zs, x = .ref l ∧ y = .ref b ∧ SqL K H l xs ∧ SqL K H b zs ∧ xs.length + zs.length ≤ sizeLine ∧ ∀ p, H p = none → Q (.ref p) (upd H p (.lst (xs ++ zs)))
theorem op_catS : OpR X (binaryOp .Add) (rCatS X.K) := by
  intro pins s σ H x y v u Q I rx ry h
  obtain ⟨l, b, xs, zs, rfl, rfl, hH, hB, hz, q⟩ := h
  cases rx
  cases ry
  obtain ⟨its, r, pl, _⟩ := I.list hH
  obtain ⟨its2, r2, pl2, _⟩ := I.list hB
  have h1 := r.length
  have h2 := r2.length
  obtain ⟨⟨cls, dd, data, sl⟩, n, ho, hc, hdd, hd⟩ := pl
  obtain ⟨⟨cls2, dd2, data2, sl2⟩, n2, ho2, hc2, hdd2, hd2⟩ := pl2
  simp only at hc hdd hd hc2 hdd2 hd2
  subst hc hdd hd hc2 hdd2 hd2
  refine concat_meets ⟨_, ho, rfl⟩ ⟨_, ho2, rfl⟩ noFill_list_add seq_list_add PySem.F.slot_list_add PySem.F.entry_list_add (PySem.F.args_list_add_2 _ _) (list_addW l b its.toArray its2.toArray n n2 none none sl sl2 (by rw [List.size_toArray, List.size_toArray]; omega)) ⟨ho, ho2, ?_⟩
  have e : its.toArray ++ its2.toArray = (its ++ its2).toArray := by simp
  rw [e]
  exact ⟨.ref _, _, I.lnew (t' := s.toks) (r.append r2) (by rw [List.length_append]; omega), rfl, q _ I.fresh⟩
noncomputable def eqVs (xs ys : List V) : Bool := xs.length == ys.length && (List.range xs.length).all fun i => eqV (xs.getD i .non) (ys.getD i .non)
theorem flat_getD {xs : List V} (h : xs.all flatV = true) {i : Nat} (hi : i < xs.length) : flatV (xs.getD i .non) = true := by
  rw [List.getD_eq_getElem?_getD, List.getElem?_eq_getElem hi]
  exact (List.all_eq_true.mp h) _ (List.getElem_mem hi)
noncomputable def rEqL (K : PySem.W.Frag) (neg : Bool) : R2 := fun x y H Q => ∃ p q xs ys, x = .ref p ∧ y = .ref q ∧ SqL K H p xs ∧ SqL K H q ys ∧ xs.all flatV = true ∧ ys.all flatV = true ∧ Q (.bl (if neg then !eqVs xs ys else eqVs xs ys)) H
theorem eqAt_items {A : Around} {s : Shared} {xs ys : List V} {its its2 : List Value} (r : Vals xs its) (r2 : Vals ys its2) (fx : xs.all flatV = true) (fy : ys.all flatV = true) :
    ∀ j (h1 : j < its.toArray.size) (h2 : j < its2.toArray.size), SeqAt.EqAt A s its.toArray[j] its2.toArray[j] (eqV (xs.getD j .non) (ys.getD j .non)) := fun j h1 h2 => by
  have l1 := r.length
  have l2 := r2.length
  have h1' : j < its.length := by simpa using h1
  have h2' : j < its2.length := by simpa using h2
  have g1 : xs[j]? = some (xs.getD j .non) := by rw [List.getD_eq_getElem?_getD, List.getElem?_eq_getElem (by (first | assumption | decide | omega))]; rfl
  have g2 : ys[j]? = some (ys.getD j .non) := by rw [List.getD_eq_getElem?_getD, List.getElem?_eq_getElem (by (first | assumption | decide | omega))]; rfl
  obtain ⟨u, e1, ru⟩ := r.get g1
  obtain ⟨u2, e2, ru2⟩ := r2.get g2
  have q1 : its.toArray[j] = u := by rw [List.getElem?_eq_getElem h1'] at e1; simpa using Option.some.inj e1
  have q2 : its2.toArray[j] = u2 := by rw [List.getElem?_eq_getElem h2'] at e2; simpa using Option.some.inj e2
  rw [q1, q2]
  exact eqAt_V ru ru2 (flat_getD fx (by (first | assumption | decide | omega))) (flat_getD fy (by (first | assumption | decide | omega)))
theorem op_neL (hu : X.A.units < cLine) : OpR X (compareOp .NotEq) (rEqL X.K true) := by
  intro pins s σ H x y v u Q I rx ry h
  obtain ⟨p, q, xs, ys, rfl, rfl, h1, h2, fx, fy, hq⟩ := h
  cases rx
  cases ry
  obtain ⟨its, r, pl, _⟩ := I.list h1
  obtain ⟨its2, r2, pl2, _⟩ := I.list h2
  have l1 := r.length
  have l2 := r2.length
  by_cases hl : xs.length = ys.length
  · refine SeqAt.RcNeAt.lists pl.isList pl2.isList (by simp; omega) hu (eqAt_items r r2 fx fy) _ _ _ _ ⟨.bl _, H, I, rfl, ?_⟩
    have e : eqVs xs ys = (List.range its.toArray.size).all fun i => eqV (xs.getD i .non) (ys.getD i .non) := by
      unfold eqVs
      rw [hl, beq_self_eq_true, Bool.true_and, List.size_toArray, ← l1, hl]
    rw [← e]
    exact hq
  · refine SeqAt.RcNeAt.lists_lengths pl.isList pl2.isList (by simp; omega) hu _ _ _ _ ⟨.bl _, H, I, rfl, ?_⟩
    have e : eqVs xs ys = false := by unfold eqVs; rw [beq_eq_false_iff_ne.mpr hl, Bool.false_and]
    rw [e] at hq
    exact hq
end
end L2
namespace L2
open PySem PySem.Spec PyProof.Rows
noncomputable def CallF (P : Program) (w : World) (K : PySem.W.Frag) (mg : Str → Option Value) (base : Heap) (x : Str) (k : Nat) (ps : List Str) (sp : Sp) : Prop :=
  ∃ f fd, mg x = some (.ref f) ∧ PySem.W.keepIn K (.ref f) = true ∧ FnOk P w K mg base CX0 k f fd ps sp ∧ Binds K fd ps []
section
variable {X : Cx} {x : Str} {k : Nat} {ps : List Str} {sp : Sp} {e : Expr} {es : List Expr} {t : TA} {p pos : Pos}
theorem pe_callF (h : CallF X.prog X.w X.K X.mg X.base x k ps sp) (hr : Room k X.A) (ha : PA X (e :: es) t) (hg : Gl X x := by rfl) (hdb : (x == ("__debug__" : Str)) = false := by decide)
    (he : starEach (e :: es) X.env = (false, eval e X.env) :: starEach es X.env := by rfl) (hpl : (backTo pos (starEach es X.env)).any (·.1) = false := by rfl) :
    PE X (.Call (.Name x p) (e :: es) [] pos) (tCall sp [] E0 t) := by
  obtain ⟨f, fd, hm, hk, F, hb⟩ := h
  exact pe_call F hr hg hm hk hb .nil pass0 ha hdb he hpl
end
set_option genInjectivity false in
structure DefAt (K : PySem.W.Frag) (mg : Str → Option Value) (x : Str) (st : Stmt) (ps : List Str) (f : Addr) (fd : FuncData) : Prop where
  fn : Fun K x x st f fd
  at' : mg x = some (.ref f)
  bi : Binds K fd ps []
theorem DefAt.call {P : Program} {w : World} {K : PySem.W.Frag} {mg : Str → Option Value} {base : Heap} {x : Str} {st : Stmt} {ps : List Str} {f : Addr} {fd : FuncData} {k : Nat} {sp : Sp} (d : DefAt K mg x st ps f fd)
    (F : FnOk P w K mg base CX0 k f fd ps sp) : CallF P w K mg base x k ps sp := ⟨f, fd, d.at', d.fn.kp, F, d.bi⟩
noncomputable def isIntV : V → Bool | .int _ => true | _ => false
noncomputable def isBlV : V → Bool | .bl _ => true | _ => false
noncomputable def Ty (K : PySem.W.Frag) (H : Hp) (x : V) : Prop := ∃ n, TyOf K H x (.type n)
noncomputable def kitB (n T : String) : Option Bool := if (Value.type n == Value.type T) = true then some true else if PySem.W.kitMeta T = true then (fastBuiltinMro n).map (·.contains (.type T)) else none
section
variable {K : PySem.W.Frag} {H : Hp} {x : V} {n : String}
theorem kb {n T : String} {b : Bool} (h : kitB n T = some b) : PySem.W.kitOne K (.type n) (.type T) = some b := h
theorem kit_int (h : TyOf K H x (.type n)) : PySem.W.kitOne K (.type n) (.type "int") = some (isIntV x || isBlV x) := by
  cases h <;> first
    | exact (show PySem.W.kitOne K _ _ = some true from kb (by decide +kernel))
    | exact (show PySem.W.kitOne K _ _ = some false from kb (by decide +kernel))
theorem kit_bool (h : TyOf K H x (.type n)) : PySem.W.kitOne K (.type n) (.type "bool") = some (isBlV x) := by
  cases h <;> first
    | exact (show PySem.W.kitOne K _ _ = some true from kb (by decide +kernel))
    | exact (show PySem.W.kitOne K _ _ = some false from kb (by decide +kernel))
end
section
variable {X : Cx}
noncomputable def Own (mg : Str → Option Value) (names : List Str) : Prop := ∀ x ∈ names, mg x = none
theorem boot_all' : bootBuiltins "all" = some (.builtin "all") := by decide +kernel
theorem pe_ty {x : Str} {T : String} {pos : Pos} (hg : Gl X x) (hm : X.mg x = none) (hv : bootBuiltins x = some (.type T)) (hn : x ≠ "__name__" := by decide) (hd : (x == ("__debug__" : Str)) = false := by decide) : PE X (.Name x pos) (tC (.ty T)) :=
  pe_bltn hg hm hv (show RelV (.ty T) (.type T) from rfl) hn hd
end
end L2
namespace L2
open PySem PySem.Spec PyProof.Rows
noncomputable def frOf (N : List Str) (scope : Scope) : List (Str × Nat) := scope.names.filterMap fun y => if y.2 = .free then (N.findIdx? fun n => decide (n = y.1)).map fun i => (y.1, i) else none
noncomputable def blkOk (sc : Scope) (N : List Str) (scope : Scope) (own : List Str) (fr : List (Str × Nat)) : Bool :=
  decide (scope.kind = .function) &&
  (scope.names.all fun y => decide (y.2 ≠ .cell) && (decide (y.2 ≠ .local) || decide (scope.names.lookup y.1 = some .local)) &&
    (decide (y.2 ≠ .free) || ((decide (sc.names.lookup y.1 = some .cell) || decide (sc.names.lookup y.1 = some .free)) && decide (scope.names.lookup y.1 = some .free)))) &&
  (fr.all fun p => decide (N[p.2]? = some p.1) && decide ((p.1, NameKind.free) ∈ scope.names)) &&
  (own.all fun x => decide (scope.names.lookup x = some .local)) && decide ((own ++ fr.map (·.1)).Nodup)
section
variable {X : Cx} {scope : Scope} {own : List Str} {fr : List (Str × Nat)}
theorem BlkScope.of (h : blkOk X.env.scope X.N scope own fr = true) : BlkScope X scope own fr := by
  unfold blkOk at h
  simp only [Bool.and_eq_true, List.all_eq_true, decide_eq_true_iff, Bool.or_eq_true] at h
  obtain ⟨⟨⟨⟨h1, h2⟩, h3⟩, h4⟩, h5⟩ := h
  exact ⟨h1, fun y hy => (h2 y hy).1.1, fun y hy e => (h2 y hy).1.2.resolve_left (fun z => z e), fun y hy e => ((h2 y hy).2.resolve_left (fun z => z e)).1, fun p hp => h3 p hp, fun x hx => ((h2 _ hx).2.resolve_left (fun z => z rfl)).2⟩
theorem blkOk_own (h : blkOk X.env.scope X.N scope own fr = true) : (∀ x ∈ own, scope.names.lookup x = some .local) ∧ (own ++ fr.map (·.1)).Nodup := by
  unfold blkOk at h
  simp only [Bool.and_eq_true, List.all_eq_true, decide_eq_true_iff, Bool.or_eq_true] at h
  exact ⟨h.1.2, h.2⟩
theorem pg_own {i : Nat} {x : Str} {px : Pos} (h : blkOk X.env.scope X.N scope own fr = true) (hi : own[i]? = some x) (C : Addr) (ex : List Addr) (s : Shared) (H : Hp) : PG (blkCx X scope own fr C ex s H) (.Name x px) (gName i) := by
  obtain ⟨h1, h2⟩ := blkOk_own h
  have hl : (relabel scope X.env).names.lookup x = some .local := lookup_relabel_local (h1 x (List.mem_of_getElem? hi))
  have hlt := (List.getElem?_eq_some_iff.mp hi).1
  refine pg_name h2 ?_ (.inl hl) (.inr hl)
  show (own ++ fr.map (·.1))[i]? = some x
  rw [List.getElem?_append_left hlt]
  exact hi
theorem pe_comp1 {elt iter : Expr} {x : Str} {px : Pos} {ifs : List Expr} {pos : Pos} {wi : TI} {tc : TT} {te : TE} (hi : PI X (.Name x px) iter wi)
    (ht : ∀ C ex s H, PTs (blkCx X scope [x] (frOf X.N scope) C ex s H) ifs tc) (he : ∀ C ex s H, PE (blkCx X scope [x] (frOf X.N scope) C ex s H) elt te)
    (hb : blkOk X.env.scope X.N scope [x] (frOf X.N scope) = true := by with_unfolding_all rfl) (hc : X.calm = true := by rfl)
    (hs : ∀ x, foldedSetIterable iter X.env x = pure x := by intro _; rfl) : PE X (.ListComp elt [⟨.Name x px, iter, ifs, 0⟩] scope pos) (tComp wi [x] (frOf X.N scope) (gName 0) tc te) :=
  pe_comp hc (.of hb) hi (fun C ex s H => pg_own hb rfl C ex s H) ht he hs
theorem ps_comp1 {i : Nat} {y x : Str} {py px spos : Pos} {elt iter : Expr} {ifs : List Expr} {pos : Pos} {wi : TI} {tc : TT} {te : TE} (hN : X.N.Nodup) (hix : X.N[i]? = some y) (hx : Loc X.env.scope y) (hi : PI X (.Name x px) iter wi)
    (ht : ∀ C ex s H, PTs (blkCx X scope [x] (frOf X.N scope) C ex s H) ifs tc) (he : ∀ C ex s H, PE (blkCx X scope [x] (frOf X.N scope) C ex s H) elt te)
    (hb : blkOk X.env.scope X.N scope [x] (frOf X.N scope) = true := by with_unfolding_all rfl) (hc : X.calm = true := by rfl)
    (hsw : swapsWith (.ListComp elt [⟨.Name x px, iter, ifs, 0⟩] scope pos) (some (.Name y py)) spos.line X.env = pure true := by rfl)
    (hf : X.fn y = true ∨ X.env.scope.names.lookup y = some .local := by first | exact .inl rfl | exact .inr rfl | assumption)
    (hs : ∀ x, foldedSetIterable iter X.env x = pure x := by intro _; rfl) :
    PS X (.Assign [.Name y py] (.ListComp elt [⟨.Name x px, iter, ifs, 0⟩] scope pos) spos) (tAsg (tComp wi [x] (frOf X.N scope) (gName 0) tc te) (gName i)) :=
  ps_comp hN hix hx hc (.of hb) hi (fun C ex s H => pg_own hb rfl C ex s H) ht he hsw hf hs
end
end L2
namespace L2
open PySem PySem.Spec PyProof.Rows
noncomputable def rLen (K : PySem.W.Frag) : List V → Hp → VK → Prop := fun xs H Q => ∃ x n, xs = [x] ∧ LenV K x H n ∧ Q (.int n) H
noncomputable def rSum (K : PySem.W.Frag) : List V → Hp → VK → Prop := fun xs H Q => ∃ (p : Addr) (ns : List Int), xs = [.ref p] ∧ SqL K H p (ns.map V.int) ∧ Q (.int ns.sum) H
noncomputable def rAll (K : PySem.W.Frag) : List V → Hp → VK → Prop := fun xs H Q => ∃ (p : Addr) (bs : List Bool), xs = [.ref p] ∧ SqL K H p (bs.map V.bl) ∧ Q (.bl (bs.all id)) H
noncomputable def rIsin (K : PySem.W.Frag) : List V → Hp → VK → Prop := fun xs H Q => ∃ x n t b, xs = [x, .ty n] ∧ TyOf K H x t ∧ PySem.W.kitOne K t (.type n) = some b ∧ Q (.bl b) H
noncomputable def rListOf (K : PySem.W.Frag) : List V → Hp → VK → Prop := fun xs H Q => ∃ p ys, xs = [.ref p] ∧ (SqL K H p ys ∨ SqT K H p ys) ∧ ∀ l, H l = none → Q (.ref l) (upd H l (.lst ys))
noncomputable def rTupleOf (K : PySem.W.Frag) : List V → Hp → VK → Prop := fun xs H Q => ∃ p ys, xs = [.ref p] ∧ ((SqL K H p ys ∧ ∀ l, H l = none → Q (.ref l) (upd H l (.tup ys))) ∨ (SqT K H p ys ∧ Q (.ref p) H))
section
variable {X : Cx} {K : PySem.W.Frag}
theorem k_len (hK : X.K = K := by rfl) : CallR X (.builtin "len") (rLen K) := by subst hK; exact call_len
theorem k_sum (hK : X.K = K := by rfl) (hc : X.calm = true := by rfl) : CallR X (.builtin "sum") (rSum K) := by subst hK; exact call_sum hc
theorem k_all (hK : X.K = K := by rfl) (hc : X.calm = true := by rfl) : CallR X (.builtin "all") (rAll K) := by subst hK; exact call_all hc
theorem k_isin (hK : X.K = K := by rfl) : CallR X (.builtin "isinstance") (rIsin K) := by subst hK; exact call_isinst
theorem k_list (hK : X.K = K := by rfl) : CallR X (.type "list") (rListOf K) := by subst hK; exact call_list_of
theorem k_tuple (hK : X.K = K := by rfl) : CallR X (.type "tuple") (rTupleOf K) := by subst hK; exact call_tuple_of
theorem k_ixl (hK : X.K = K := by rfl) : IxR X (rIxL K) := by subst hK; exact ix_list
theorem k_ixt (hK : X.K = K := by rfl) : IxR X (rIxT K) := by subst hK; exact ix_tup
theorem k_cat (hK : X.K = K := by rfl) : OpR X (binaryOp .Add) (rCatS K) := by subst hK; exact op_catS
theorem k_nel (hu : X.A.units < cLine) (hK : X.K = K := by rfl) : OpR X (compareOp .NotEq) (rEqL K true) := by subst hK; exact op_neL hu
theorem k_sll (hK : X.K = K := by rfl) : SlR X (rSlL K) := by subst hK; exact sl_list
theorem k_pil {tg l : Expr} {tl : TE} (hl : PE X l tl) (hK : X.K = K := by rfl) : PI X tg l (iList K tl) := by subst hK; exact pi_list hl
theorem k_pit {tg l : Expr} {tl : TE} (hl : PE X l tl) (hK : X.K = K := by rfl) : PI X tg l (iTup K tl) := by subst hK; exact pi_tup hl
end
end L2
namespace L2
open PySem PySem.Spec PyProof.Rows
section
variable {X : Cx} {pins : List (Addr × Obj)} {σ : St} {H : Hp} {s : Shared} {h' : Heap}
theorem Inv.turnedL {t' : Nat} (ch : List Addr) (I : Inv X pins σ H s) (hf : ∀ b ∈ ch, FpOk X pins H b) (k : ∀ b o, b ∉ ch → s.heap.get? b = some o → h'.get? b = some o) : Inv X pins σ H { s with heap := h', toks := t' } := by
  have nit : ∀ b u, H b = some u → b ∉ ch := fun b u e z => by rw [(hf b z).1] at e; cases e
  refine I.step (g' := s.gens) (d' := s.drawn) (ch := ch) (fun b hb => ?_) (fun b o _ _ hc e _ => k b o hc e) (fun b o _ _ hc e _ => ⟨o.slots, k b o hc e⟩) (fun _ _ _ _ n => n)
    (fun b o hc e => ⟨o, k b o hc e⟩) (fun _ _ e => e) (fun _ _ _ e => e) (fun b ps e => ⟨#[], by rw [e]; simp⟩) (fun m hm => ?_) (fun b u e => ?_) I.bare
  · obtain ⟨f0, f1, f2, f3, f4, f5⟩ := hf b hb
    exact ⟨f3, f1, f4, f5⟩
  · obtain ⟨o, es, ep, ho, r⟩ := hm
    exact ⟨o, es, ep, k _ o (fun z => (hf _ z).2.1 rfl) ho, r⟩
  · refine (I.hok b u e).stay (fun c v hc q => k c v ?_ q) (fun _ q => q) fun _ _ q => q
    rcases hc with z | z
    · rw [z]; exact nit b u e
    · exact nit c _ z
end
noncomputable def Ite (K : PySem.W.Frag) (a : Addr) : It :=
  ⟨fun i H => ∃ xs x, SqL K H a xs ∧ xs[i]? = some x, fun i H v H' => ∃ p x, H p = none ∧ v = .ref p ∧ H' = upd H p (.tup [.int i, x]) ∧ ∀ xs, SqL K H a xs → xs[i]? = some x, fun i H => ∃ xs, SqL K H a xs ∧ xs.length ≤ i⟩
theorem fp_upd {X : Cx} {pins : List (Addr × Obj)} {H : Hp} {b p : Addr} {o : HO} (h : FpOk X pins H b) (n : b ≠ p) : FpOk X pins (upd H p o) b := ⟨by rw [upd_ne n]; exact h.1, h.2⟩
theorem turn_enum {P : Program} {w : World} {K : PySem.W.Frag} {elts : List Expr} {k : Nat} {pos : Pos} (a e it : Addr) (hne : e ≠ it) :
    Turn P w K (.Tuple elts k pos) (Ite K a) [e, it] e (fun i h => (∃ old, IsEnum h e it i old) ∧ h.IsListIter it a i) where
  mem := by simp
  obj := fun i h st b hb => by
    obtain ⟨⟨old, he⟩, o, eo, c, d⟩ := st
    rcases List.mem_cons.mp hb with z | z
    · subst z
      exact ⟨_, he, fun v z => by cases (show Data.fields _ = Data.cell v from z)⟩
    · have z : b = it := by simpa using z
      subst z
      exact ⟨o, eo, fun v z => by rw [d] at z; cases z⟩
  keep := fun i h h' st kp => by
    obtain ⟨⟨old, he⟩, hi⟩ := st
    exact ⟨⟨old, kp e (by simp) _ he⟩, hi.at fun o z => kp it (by simp) o z⟩
  item := by
    intro X hP hw hK hc i pins s σ H E I hf st hg
    subst hP hw hK
    obtain ⟨xs, x, hq, hx⟩ := hg
    obtain ⟨its, rv, p, hz⟩ := I.list hq
    obtain ⟨u, hu, ru⟩ := rv.get hx
    obtain ⟨⟨old, he⟩, hi⟩ := st
    have hel : e < s.heap.objs.size := Heap.lt_size he
    have hil : it < s.heap.objs.size := by obtain ⟨_, z, _⟩ := hi; exact Heap.lt_size z
    refine wpAny_pyNext_enum_item he hi p.isList (x := u) (by simpa using hu) hne fun h' ho hi' hT hsz hk => ?_
    have I0 := I.laid (h' := s.heap.push { cls := .type "tuple", data := .seq #[.int i s.toks, u] }) (a := s.heap.objs.size) (o := .tup [.int i, x]) (t' := s.toks + 1) (fun _ _ q => Heap.get?_push_of_some _ q) (Nat.le_refl _)
      ⟨(by show 2 ≤ sizeLine; decide), [.int i s.toks, u], .cons ⟨_, rfl⟩ (.cons ru .nil), ⟨_, Heap.get?_push_size _ rfl, rfl, _, rfl⟩⟩
    have f0 : ∀ b ∈ [e, it], FpOk X pins (upd H s.heap.objs.size (.tup [.int i, x])) b := fun b hb => fp_upd (hf b hb) (by
      rcases List.mem_cons.mp hb with z | z
      · rw [z]; exact Nat.ne_of_lt hel
      · rw [show b = it by simpa using z]; exact Nat.ne_of_lt hil)
    have I1 := Inv.turnedL (t' := s.toks + 1) (h' := h') [e, it] I0 f0 (fun b o hb z => by
      have hb1 : b ≠ e := fun q => hb (by simp [q])
      have hb2 : b ≠ it := fun q => hb (by simp [q])
      rcases Heap.get?_push_cases (show (s.heap.push { cls := .type "tuple", data := .seq #[.int i s.toks, u] }).get? b = some o from z) with ⟨q1, q2⟩ | q
      · rw [q1, q2]; exact hT
      · exact hk b o hb1 hb2 q)
    refine ⟨.ref s.heap.objs.size, rfl, wpAny_letOwnedTupleGo_enum (s := { s with heap := h', toks := s.toks + 1 }) ho fun h2 he2 sb => ?_⟩
    refine ⟨.ref s.heap.objs.size, _, Inv.turnedL (t' := s.toks + 1) (h' := h2) [e, it] I1 f0 (fun b o hb z => (sb.2 b fun q => hb (by simp [q])).trans z), rfl, ⟨_, x, I.fresh, rfl, rfl, fun ys hy => by rw [I.list_inj hy hq]; exact hx⟩, ⟨⟨u, by simpa using he2⟩, hi'.at fun o z => (sb.2 it hne.symm).trans z⟩, fun b hb => (f0 b hb).1⟩
  done := by
    intro X hP hw hK hc i pins s σ H E I hf st hg
    subst hP hw hK
    obtain ⟨xs, hq, hx⟩ := hg
    obtain ⟨its, rv, p, hz⟩ := I.list hq
    obtain ⟨⟨old, he⟩, hi⟩ := st
    have hl := rv.length
    exact wpAny_pyNext_enum_end (I.ok.hd hc) he hi p.isList (by simp; omega) fun h' eb => ⟨rfl, I.turnedL (t' := s.toks) [e, it] hf fun b o hb z => eb b o (fun q => hb (by simp [q])) z⟩
  self := fun _ _ _ _ _ st h => by
    obtain ⟨⟨old, he⟩, _⟩ := st
    exact wpAny_pyIter_enum he h
section
variable {X : Cx} {elts : List Expr} {k : Nat} {tpos : Pos} {K : PySem.W.Frag}
noncomputable def iEnum (K : PySem.W.Frag) (ta : TA) : TI := fun σ H R => ta σ H fun vs H1 => ∃ a, vs = [.ref a] ∧ (∃ xs, SqL K H1 a xs) ∧ R (Ite K a) H1
theorem boot_enum : bootBuiltins "enumerate" = some (.type "enumerate") := by decide +kernel
theorem pi_enum {l : Expr} {ta : TA} {p pos : Pos} (hg : Gl X "enumerate") (hm : X.mg "enumerate" = none) (ha : PA X [l] ta) (hK : X.K = K := by rfl) (hs : starEach [l] X.env = [(false, eval l X.env)] := by rfl) : PI X (.Tuple elts k tpos) (.Call (.Name "enumerate" p) [l] [] pos) (iEnum K ta) := by
  subst hK
  intro pins s σ H R I h
  refine Call_ (ld_blt I hg hm boot_enum (PyProof.Rows.callWith_type1 (thn (ha pos pins s σ H _ I h) fun us s1 ⟨vs, H1, I1, r1, q1⟩ => ?_) hs rfl))
  obtain ⟨a, e, ⟨xs, hq⟩, q⟩ := q1
  subst e
  cases r1 with
  | cons r rr =>
    cases rr
    cases r
    obtain ⟨its, rv, pl, hz⟩ := I1.list hq
    refine call_enumerate_list pl.isList fun h' he hi hsz hk => ?_
    refine wpAny_pyIter_enum he ?_
    have I2 := I1.kept (t' := s1.toks) hk
    refine ⟨s1.heap.objs.size + 1, [s1.heap.objs.size + 1, s1.heap.objs.size], _, _, H1, rfl, I2, turn_enum a _ _ (Nat.succ_ne_self _), ⟨⟨_, he⟩, hi⟩, fun b hb => ?_, q⟩
    have hb' : s1.heap.objs.size ≤ b := by
      rcases List.mem_cons.mp hb with z | z
      · rw [z]; exact Nat.le_succ _
      · have z : b = s1.heap.objs.size := by simpa using z
        rw [z]; exact Nat.le_refl _
    exact I1.fpOk hb' (I1.hok.fresh hb')
end
section
variable {X : Cx} {elts : List Expr} {k : Nat} {tpos : Pos} {K : PySem.W.Frag}
end
end L2
namespace L2
open PySem PySem.Spec PyProof.Rows
noncomputable def SrcIt (tp : Bool) (h : Heap) (it l : Addr) (i : Nat) : Prop := if tp = true then h.IsTupleIter it l i else h.IsListIter it l i
noncomputable def SrcSq (tp : Bool) (h : Heap) (l : Addr) (xs : Array Value) : Prop := if tp = true then h.IsTuple l xs else h.IsList l xs
theorem srcIt_at {tp : Bool} {h h' : Heap} {it l : Addr} {i : Nat} (x : SrcIt tp h it l i) (k : ∀ o, h.get? it = some o → h'.get? it = some o) : SrcIt tp h' it l i := by
  cases tp with
  | false => obtain ⟨o, e, r⟩ := (show h.IsListIter it l i from x); exact (show h'.IsListIter it l i from ⟨o, k o e, r⟩)
  | true => obtain ⟨o, e, r⟩ := (show h.IsTupleIter it l i from x); exact (show h'.IsTupleIter it l i from ⟨o, k o e, r⟩)
theorem srcSq_at {tp : Bool} {h h' : Heap} {l : Addr} {xs : Array Value} (x : SrcSq tp h l xs) (k : ∀ o, h.get? l = some o → h'.get? l = some o) : SrcSq tp h' l xs := by
  cases tp with
  | false => obtain ⟨o, e, r⟩ := (show h.IsList l xs from x); exact (show h'.IsList l xs from ⟨o, k o e, r⟩)
  | true => obtain ⟨o, e, r⟩ := (show h.IsTuple l xs from x); exact (show h'.IsTuple l xs from ⟨o, k o e, r⟩)
theorem srcIt_obj {tp : Bool} {h : Heap} {it l : Addr} {i : Nat} (x : SrcIt tp h it l i) : ∃ o, h.get? it = some o ∧ o.data = .fields #[.ref l, .int i 0] := by
  cases tp with
  | false => obtain ⟨o, e, _, d⟩ := (show h.IsListIter it l i from x); exact ⟨o, e, d⟩
  | true => obtain ⟨o, e, _, d⟩ := (show h.IsTupleIter it l i from x); exact ⟨o, e, d⟩
theorem srcSq_obj {tp : Bool} {h : Heap} {l : Addr} {xs : Array Value} (x : SrcSq tp h l xs) : ∃ o n, h.get? l = some o ∧ o.data = .seq xs n := by
  cases tp with
  | false => obtain ⟨o, e, _, n, d⟩ := (show h.IsList l xs from x); exact ⟨o, n, e, d⟩
  | true => obtain ⟨o, e, _, n, d⟩ := (show h.IsTuple l xs from x); exact ⟨o, n, e, d⟩
section
variable {prog : Program} {w : World} {A : Around} {E : Value → Shared → Prop} {s : Shared}
theorem src_item {tp : Bool} {it l : Addr} {i : Nat} {xs : Array Value} {x : Value} {Q : Value → Shared → Prop} (ht : SrcIt tp s.heap it l i) (hq : SrcSq tp s.heap l xs) (hx : xs[i]? = some x)
    (k : ∀ h', SrcIt tp h' it l (i + 1) → Heap.SameBut it s.heap h' → Q x { s with heap := h' }) : wpAny (model prog w) A (Builtin.SmallTypes.nextOf (.ref it)) Q E s := by
  cases tp with
  | false => exact wpAny_nextOf_list_item (show s.heap.IsListIter it l i from ht) (show s.heap.IsList l xs from hq) hx k
  | true =>
    have ht : s.heap.IsTupleIter it l i := ht
    obtain ⟨ob, eb, cb, db⟩ := id ht
    obtain ⟨ol, el, _, nl, dl⟩ := (show s.heap.IsTuple l xs from hq)
    unfold Builtin.SmallTypes.nextOf
    refine wpAny_bind (wpAny_callSpecial?_slot (name := Str.ofString "__next__") ht.typeIs F.slot_tuple_iterator_next (wpAny_call_entry F.slot_tuple_iterator_next ht.typeIs F.entry_tuple_iterator_next ?_ (F.args_tuple_iterator_next_1 _)))
    show wpAny _ _ (field (.ref it) 0 >>= _) _ _ s
    refine wpAny_bind (wpAny_field eb db (x := .ref l) rfl ?_)
    show wpAny _ _ (if (Value.ref l == Value.none) = true then _ else _) _ _ s
    rw [if_neg (show ¬ ((Value.ref l == Value.none) = true) from Bool.false_ne_true)]
    show wpAny _ _ (field (.ref it) 1 >>= _) _ _ s
    refine wpAny_bind (wpAny_field eb db (x := .int i 0) rfl ?_)
    show wpAny _ _ (seqItems? (.ref l) >>= _) _ _ s
    refine wpAny_bind (wpAny_seqItems el dl ?_)
    simp only [Int.toNat_natCast, hx]
    refine wpAny_bind (wpAny_setField eb db (by simp) (wpAny_pure ⟨x, rfl, wpAny_pure (k _ ?_ (Heap.SameBut.update ..))⟩))
    exact (show Heap.IsTupleIter _ it l (i + 1) from ⟨_, Heap.get?_update_self _ eb (Obj.isFreed_of_fields (Obj.data_mapFields db _)), (Obj.cls_mapFields ..).trans cb, by rw [Obj.data_mapFields db]; simp [rawInt]⟩)
theorem src_end {tp : Bool} {it l : Addr} {i : Nat} {xs : Array Value} {Q : Value → Shared → Prop} (hh : A.handled = none) (ht : SrcIt tp s.heap it l i) (hq : SrcSq tp s.heap l xs) (hx : xs[i]? = none)
    (k : ∀ h' e, Heap.ExtBut it s.heap h' → (∃ o, h'.get? e = some o ∧ o.cls = .type "StopIteration") → E (.ref e) { s with heap := h' }) : wpAny (model prog w) A (Builtin.SmallTypes.nextOf (.ref it)) Q E s := by
  cases tp with
  | false => exact wpAny_nextOf_list_end hh (show s.heap.IsListIter it l i from ht) (show s.heap.IsList l xs from hq) hx k
  | true =>
    have ht : s.heap.IsTupleIter it l i := ht
    obtain ⟨ob, eb, cb, db⟩ := id ht
    obtain ⟨ol, el, _, nl, dl⟩ := (show s.heap.IsTuple l xs from hq)
    unfold Builtin.SmallTypes.nextOf
    refine wpAny_bind (wpAny_callSpecial?_slot (name := Str.ofString "__next__") ht.typeIs F.slot_tuple_iterator_next (wpAny_call_entry F.slot_tuple_iterator_next ht.typeIs F.entry_tuple_iterator_next ?_ (F.args_tuple_iterator_next_1 _)))
    show wpAny _ _ (field (.ref it) 0 >>= _) _ _ s
    refine wpAny_bind (wpAny_field eb db (x := .ref l) rfl ?_)
    show wpAny _ _ (if (Value.ref l == Value.none) = true then _ else _) _ _ s
    rw [if_neg (show ¬ ((Value.ref l == Value.none) = true) from Bool.false_ne_true)]
    show wpAny _ _ (field (.ref it) 1 >>= _) _ _ s
    refine wpAny_bind (wpAny_field eb db (x := .int i 0) rfl ?_)
    show wpAny _ _ (seqItems? (.ref l) >>= _) _ _ s
    refine wpAny_bind (wpAny_seqItems el dl ?_)
    simp only [Int.toNat_natCast, hx]
    refine wpAny_bind (wpAny_rule (wpAny_bind (wpAny_setField eb db (by simp) ?_)))
    show wpAny _ _ (newExc (.type "StopIteration") [] >>= _) _ _ _
    refine wpAny_bind ?_
    simp only [newExc, newTuple]
    refine wpAny_bind (wpAny_newObj_type ?_ (by size_fits))
    refine wpAny_bind (m := firstArgMember _ _) (wpAny_of_eq (a := Value.none) (by first | rfl | (simp only [firstArgMember]; rfl)) ?_)
    refine wpAny_newObj_type ?_ (by size_fits)
    simp only [raiseNew]
    refine wpAny_bind (wpAny_handled ?_)
    first | rw [show A.in1.handled = none from hh] | rw [hh]
    exact wpAny_bind (wpAny_pure (wpAny_throw (k _ _ (((Heap.SameBut.update ..).extBut.push _).push _) ⟨_, Heap.get?_push_size _ rfl, rfl⟩)))
end
section
variable {prog : Program} {w : World} {A : Around} {E : Value → Shared → Prop} {s : Shared}
noncomputable def srcTy (tp : Bool) : String := if tp = true then "tuple_iterator" else "list_iterator"
theorem src_iter {tp : Bool} {l : Addr} {xs : Array Value} {Q : Value → Shared → Prop} (hq : SrcSq tp s.heap l xs) (k : Q (.ref s.heap.objs.size) { s with heap := s.heap.push { cls := .type (srcTy tp), data := .fields #[.ref l, .int 0 0] } }) :
    wpAny (model prog w) A (pyIter (.ref l)) Q E s := by
  cases tp with
  | false => exact wpAny_pyIter_list (show s.heap.IsList l xs from hq) k
  | true => exact wpAny_pyIter_tuple (show s.heap.IsTuple l xs from hq) k
theorem srcIt_new {tp : Bool} {h : Heap} {l : Addr} : SrcIt tp (h.push { cls := .type (srcTy tp), data := .fields #[.ref l, .int 0 0] }) h.objs.size l 0 := by
  cases tp with
  | false => exact (show Heap.IsListIter _ _ l 0 from ⟨_, Heap.get?_push_size _ rfl, rfl, rfl⟩)
  | true => exact (show Heap.IsTupleIter _ _ l 0 from ⟨_, Heap.get?_push_size _ rfl, rfl, rfl⟩)
end
noncomputable def SqS (tp : Bool) (K : PySem.W.Frag) (H : Hp) (a : Addr) (xs : List V) : Prop := if tp = true then SqT K H a xs else SqL K H a xs
theorem sqS_src {X : Cx} {pins : List (Addr × Obj)} {σ : St} {H : Hp} {s : Shared} {tp : Bool} {a : Addr} {xs : List V} (I : Inv X pins σ H s) (h : SqS tp X.K H a xs) : ∃ its : List Value, Vals xs its ∧ SrcSq tp s.heap a its.toArray := by
  cases tp with
  | false =>
    obtain ⟨its, r, p, _⟩ := I.list (show SqL X.K H a xs from h)
    exact ⟨its, r, (show s.heap.IsList a its.toArray from p.isList)⟩
  | true =>
    obtain ⟨its, r, p, _⟩ := I.tuple (show SqT X.K H a xs from h)
    exact ⟨its, r, (show s.heap.IsTuple a its.toArray from p)⟩
theorem sqS_inj {X : Cx} {pins : List (Addr × Obj)} {σ : St} {H : Hp} {s : Shared} {tp : Bool} {a : Addr} {xs ys : List V} (I : Inv X pins σ H s) (h : SqS tp X.K H a xs) (h2 : SqS tp X.K H a ys) : xs = ys := by
  cases tp with
  | false => exact I.list_inj h h2
  | true => exact I.tuple_inj h h2
section
variable {X : Cx} {elts : List Expr} {k : Nat} {tpos : Pos} {K : PySem.W.Frag}
end
end L2
namespace L2
open PySem PySem.Spec PyProof.Rows
section
variable {X : Cx} {K : PySem.W.Frag}
theorem boot_list' : bootBuiltins "list" = some (.type "list") := by decide +kernel
theorem boot_tuple' : bootBuiltins "tuple" = some (.type "tuple") := by decide +kernel
theorem boot_min' : bootBuiltins "min" = some (.builtin "min") := by decide +kernel
theorem boot_max' : bootBuiltins "max" = some (.builtin "max") := by decide +kernel
variable {scope : Scope} {fr : List (Str × Nat)}
theorem pg_own2 {x y : Str} {px py pt : Pos} {k : Nat} (h : blkOk X.env.scope X.N scope [x, y] fr = true) (hc : X.calm = true) (C : Addr) (ex : List Addr) (s : Shared) (H : Hp) (hK : X.K = K := by rfl) :
    PG (blkCx X scope [x, y] fr C ex s H) (.Tuple [.Name x px, .Name y py] k pt) (gTup K 2 (gCons (gName 0) (gCons (gName 1) gNil))) := by
  subst hK
  exact pg_tup (X := blkCx X scope [x, y] fr C ex s H) hc (pgs_cons (pg_own h rfl C ex s H) (pgs_cons (pg_own h rfl C ex s H) pgs_nil))
theorem pe_comp2 {elt iter : Expr} {x y : Str} {px py pt : Pos} {k : Nat} {ifs : List Expr} {pos : Pos} {wi : TI} {tc : TT} {te : TE} (hi : PI X (.Tuple [.Name x px, .Name y py] k pt) iter wi)
    (ht : ∀ C ex s H, PTs (blkCx X scope [x, y] (frOf X.N scope) C ex s H) ifs tc) (he : ∀ C ex s H, PE (blkCx X scope [x, y] (frOf X.N scope) C ex s H) elt te) (hK : X.K = K := by rfl)
    (hb : blkOk X.env.scope X.N scope [x, y] (frOf X.N scope) = true := by with_unfolding_all rfl) (hc : X.calm = true := by rfl)
    (hs : ∀ x, foldedSetIterable iter X.env x = pure x := by intro _; rfl) : PE X (.ListComp elt [⟨.Tuple [.Name x px, .Name y py] k pt, iter, ifs, 0⟩] scope pos) (tComp wi [x, y] (frOf X.N scope) (gTup K 2 (gCons (gName 0) (gCons (gName 1) gNil))) tc te) :=
  pe_comp hc (.of hb) hi (fun C ex s H => pg_own2 hb hc C ex s H hK) ht he hs
end
section
variable {K : PySem.W.Frag} {D : Addr} {σ0 : St} {tc : TT} {te : TE} {Q : VK} {H : Hp}
end
end L2
namespace L2
open PySem PySem.Spec PyProof.Rows
inductive Dt where
  | non | bl (b : Bool) | int (i : Int) | str (z : Str) | lst (xs : List Dt) | tup (xs : List Dt)
inductive Rp (H : Hp) (F : Addr → Prop) : Nat → V → Dt → Prop where
  | non {n : Nat} : Rp H F n .non .non
  | bl {n : Nat} (b : Bool) : Rp H F n (.bl b) (.bl b)
  | int {n : Nat} (i : Int) : Rp H F n (.int i) (.int i)
  | str {n : Nat} (z : Str) : Rp H F n (.str z) (.str z)
  | lst {n : Nat} {a : Addr} {vs : List V} {ds : List Dt} (h : H a = some (.lst vs)) (f : F a) (b : vs.length ≤ 100000) (l : vs.length = ds.length) (e : ∀ (i : Nat) (v : V) (d : Dt), vs[i]? = some v → ds[i]? = some d → Rp H F n v d) : Rp H F (n + 1) (.ref a) (.lst ds)
  | tup {n : Nat} {a : Addr} {vs : List V} {ds : List Dt} (h : H a = some (.tup vs)) (b : vs.length ≤ 100000) (l : vs.length = ds.length) (e : ∀ (i : Nat) (v : V) (d : Dt), vs[i]? = some v → ds[i]? = some d → Rp H F n v d) : Rp H F (n + 1) (.ref a) (.tup ds)
theorem Rp.mono {H H' : Hp} {F F' : Addr → Prop} {n : Nat} {v : V} {d : Dt} (r : Rp H F n v d) (k : ∀ a o, H a = some o → (∀ xs, o = .lst xs → F a) → H' a = some o) (f : ∀ a, F a → F' a) : Rp H' F' n v d := by
  induction r with
  | non => exact .non
  | bl b => exact .bl b
  | int i => exact .int i
  | str z => exact .str z
  | lst h p b l e ih => exact .lst (k _ _ h fun _ _ => p) (f _ p) b l fun i v d h1 h2 => ih i v d h1 h2
  | tup h b l e ih => exact .tup (k _ _ h fun xs q => by cases q) b l fun i v d h1 h2 => ih i v d h1 h2
theorem Rp.same {H H' : Hp} {F : Addr → Prop} {n : Nat} {v : V} {d : Dt} (r : Rp H F n v d) (s : Same H H') : Rp H' F n v d := r.mono (fun a o h _ => s a o h) fun _ h => h
theorem Rp.imp {H : Hp} {F F' : Addr → Prop} {n : Nat} {v : V} {d : Dt} (r : Rp H F n v d) (f : ∀ a, F a → F' a) : Rp H F' n v d := r.mono (fun a o h _ => h) f
noncomputable abbrev FT : Addr → Prop := fun _ => True
noncomputable abbrev FN (H : Hp) : Addr → Prop := fun a => H a = none
theorem Rp.any {H : Hp} {F : Addr → Prop} {n : Nat} {v : V} {d : Dt} (r : Rp H F n v d) : Rp H FT n v d := r.imp fun _ _ => trivial
noncomputable def dInts (ns : List Int) : Dt := .lst (ns.map .int)
theorem ints_of {H : Hp} {F : Addr → Prop} {n : Nat} {v : V} {ns : List Int} (r : Rp H F n v (dInts ns)) : ∃ a, v = .ref a ∧ H a = some (.lst (ns.map V.int)) ∧ F a := by
  unfold dInts at r
  cases r with
  | @lst n a vs _ h f b l e =>
    refine ⟨a, rfl, ?_, f⟩
    rw [h]
    congr 2
    refine List.ext_getElem (by simpa using l) fun i h1 h2 => ?_
    have h2' : i < ns.length := by simpa using h2
    have := e i vs[i] (.int ns[i]) (by simp [h1]) (by simp [h2'])
    cases hv : vs[i] <;> rw [hv] at this <;> cases this
    simp
end L2
namespace L2
open PySem PySem.Spec PyProof.Rows
section
variable {t u : TS} {D : Ends} {σ : St} {H : Hp} {te ta tb tk : TE} {tt tu : TT} {g : TG} {Q : VK} {QT : Bool → Hp → Prop} {QA : List V → Hp → Prop} {i : Nat} {v x y : V} {r : R2} {tr : TA} {K : PySem.W.Frag}
theorem rd_seq (h : t { D with nx := u D } σ H) : tSeq t u D σ H := h
theorem rd_next (h : D.nx σ H) : tNext D σ H := h
theorem rd_asg (h : te σ H fun x H1 => g x σ H1 D.nx) : tAsg te g D σ H := h
theorem rd_name {QS : St → Hp → Prop} (h : QS (σ.set i (some v)) H) : gName i v σ H QS := h
theorem rd_var (e : σ[i]? = some (some v)) (h : Q v H) : tVar i σ H Q := ⟨v, e, h⟩
theorem rd_c (h : Q v H) : tC v σ H Q := h
theorem rd_op (h : ta σ H fun x H1 => tb σ H1 fun y H2 => r x y H2 Q) : tOp r ta tb σ H Q := h
theorem rd_rI {C : Int → Int → Prop} {gg : Int → Int → V} {a b : Int} (c : C a b) (h : Q (gg a b) H) : rI C gg (.int a) (.int b) H Q := ⟨a, b, rfl, rfl, c, h⟩
theorem rd_rI0 {gg : Int → Int → V} {a b : Int} (h : Q (gg a b) H) : rI0 gg (.int a) (.int b) H Q := ⟨a, b, rfl, rfl, h⟩
theorem rd_eqI {a b : Int} (h : Q (.bl (decide (a = b))) H) : rEq (.int a) (.int b) H Q := ⟨rfl, by rw [show decide (V.int a = V.int b) = decide (a = b) by rw [Bool.eq_iff_iff]; simp]; exact h⟩
theorem rd_neI {a b : Int} (h : Q (.bl (!decide (a = b))) H) : rNe (.int a) (.int b) H Q := ⟨rfl, by rw [show decide (V.int a = V.int b) = decide (a = b) by rw [Bool.eq_iff_iff]; simp]; exact h⟩
theorem rd_not (h : tt σ H fun c H1 => QT (!c) H1) : tNot tt σ H QT := h
theorem rd_test (h : te σ H fun x H' => ∃ k, x = .bl k ∧ QT k H') : tTest te σ H QT := h
theorem rd_tB (h : te σ H fun x H' => ∃ k, x = .bl k ∧ QT k H') : tB te σ H QT := h
theorem rd_bl {b : Bool} {R : Bool → Prop} (h : R b) : ∃ k, V.bl b = .bl k ∧ R k := ⟨b, rfl, h⟩
theorem rd_or (h : tt σ H fun c H1 => if c = true then QT true H1 else tu σ H1 QT) : tOr tt tu σ H QT := h
theorem rd_and (h : tt σ H fun c H1 => if c = true then tu σ H1 QT else QT false H1) : tAnd tt tu σ H QT := h
theorem rd_andV (h : ta σ H fun x H1 => ∃ c, x = .bl c ∧ if c = true then tb σ H1 Q else Q (.bl false) H1) : tAndV ta tb σ H Q := h
theorem rd_notV (h : ta σ H fun x H1 => ∃ c, x = .bl c ∧ Q (.bl (!c)) H1) : tNotV ta σ H Q := h
theorem rd_ifS (h : tt σ H fun b H1 => if b = true then t D σ H1 else u D σ H1) : tIfS tt t u D σ H := h
theorem rd_if (h : tt σ H fun c H1 => if c = true then ta σ H1 Q else tb σ H1 Q) : tIf tt ta tb σ H Q := h
theorem rd_ret (h : te σ H D.rt) : tRet te D σ H := h
theorem rd_drop (h : te σ H fun _ H1 => D.nx σ H1) : tDrop te D σ H := h
theorem rd_nil (h : QA [] H) : tNil σ H QA := h
theorem rd_cons (h : te σ H fun x H1 => tr σ H1 fun xs H2 => QA (x :: xs) H2) : tCons te tr σ H QA := h
theorem rd_lst (h : tr σ H fun xs H1 => xs.length ≤ sizeLine ∧ ∀ p, H1 p = none → Q (.ref p) (upd H1 p (.lst xs))) : tLst tr σ H Q := h
theorem rd_tup (h : tr σ H fun xs H1 => xs.length ≤ sizeLine ∧ ∀ p, H1 p = none → Q (.ref p) (upd H1 p (.tup xs))) : tTup tr σ H Q := h
theorem rd_cb {rr : List V → Hp → VK → Prop} (h : tr σ H fun vs H1 => rr vs H1 Q) : tCB rr tr σ H Q := h
theorem rd_call {sp : Sp} {E : XK} (h : tr σ H fun vs H1 => sp vs H1 Q E) : tCall sp [] E tr σ H Q := by
  unfold tCall
  simpa using h
theorem rd_sl {rs : V → Option Int → Option Int → Hp → VK → Prop} {tl th : TO} (h : te σ H fun x H1 => tl σ H1 fun l H2 => th σ H2 fun u H3 => rs x l u H3 Q) : tSl rs te tl th σ H Q := h
theorem rd_part {QO : Option Int → Hp → Prop} (h : te σ H fun x H1 => ∃ i, x = .int i ∧ QO (some i) H1) : tPart te σ H QO := h
theorem rd_noPart {QO : Option Int → Hp → Prop} (h : QO none H) : tNoPart σ H QO := h
theorem rd_int {a : Int} {R : Int → Prop} (h : R a) : ∃ k, V.int a = .int k ∧ R k := ⟨a, rfl, h⟩
theorem rd_slL {p : Addr} {xs : List V} {lo hi : Option Int} (c : SqL K H p xs) (h : ∀ q, H q = none → Q (.ref q) (upd H q (.lst (cutV xs lo hi)))) : rSlL K (.ref p) lo hi H Q := ⟨p, xs, rfl, c, h⟩
theorem rd_lenL {p : Addr} {xs : List V} (c : SqL K H p xs) (h : Q (.int xs.length) H) : rLen K [.ref p] H Q := ⟨_, _, rfl, .inl ⟨xs, c, rfl⟩, h⟩
theorem rd_lenT {p : Addr} {xs : List V} (c : SqT K H p xs) (h : Q (.int xs.length) H) : rLen K [.ref p] H Q := ⟨_, _, rfl, .inr ⟨xs, c, rfl⟩, h⟩
theorem rd_sum {p : Addr} {ns : List Int} (c : SqL K H p (ns.map V.int)) (h : Q (.int ns.sum) H) : rSum K [.ref p] H Q := ⟨p, ns, rfl, c, h⟩
theorem rd_all {p : Addr} {bs : List Bool} (c : SqL K H p (bs.map V.bl)) (h : Q (.bl (bs.all id)) H) : rAll K [.ref p] H Q := ⟨p, bs, rfl, c, h⟩
theorem rd_isin {n : String} {ty : Value} {b : Bool} (c : TyOf K H x ty) (e : PySem.W.kitOne K ty (.type n) = some b) (h : Q (.bl b) H) : rIsin K [x, .ty n] H Q := ⟨x, n, ty, b, rfl, c, e, h⟩
theorem rd_ixL {p : Addr} {xs : List V} {k : Int} (c : SqL K H p xs) (e : atI xs k = some v) (h : Q v H) : rIxL K (.ref p) (.int k) H Q := ⟨p, xs, k, v, rfl, rfl, c, e, h⟩
theorem rd_ixT {p : Addr} {xs : List V} {k : Int} (c : SqT K H p xs) (e : atI xs k = some v) (h : Q v H) : rIxT K (.ref p) (.int k) H Q := ⟨p, xs, k, v, rfl, rfl, c, e, h⟩
theorem rd_len {xs : List V} {B : Prop} (c : xs.length ≤ 1000) (h : B) : xs.length ≤ sizeLine ∧ B := ⟨Nat.le_trans c (by decide), h⟩
end
noncomputable def isLst : Dt → Bool | .lst _ => true | _ => false
noncomputable def isTup : Dt → Bool | .tup _ => true | _ => false
theorem SqS.same {K : PySem.W.Frag} {H H' : Hp} {tp : Bool} {p : Addr} {xs : List V} (c : SqS tp K H p xs) (s : Same H H') : SqS tp K H' p xs := by
  cases tp with
  | false => exact (show SqL K H' p xs from s.seq c)
  | true =>
    rcases (show SqT K H p xs from c) with (q | ⟨o, q⟩) | q
    · exact (show SqT K H' p xs from .inl (.inl (s _ _ q)))
    · exact (show SqT K H' p xs from .inl (.inr ⟨o, s _ _ q⟩))
    · exact (show SqT K H' p xs from .inr q)
theorem same_new {H : Hp} {p : Addr} {o : HO} (h : H p = none) : Same H (upd H p o) := fun b u e => by rw [upd_ne (ne_of_none e h)]; exact e
theorem same_at {H H' : Hp} {D : Addr} {o : HO} (s : Same H H') (h : H D = none) : Same H (upd H' D o) := fun b u e => by rw [upd_ne (ne_of_none e h)]; exact s b u e
end L2
namespace L2
open PySem PySem.Spec PyProof.Rows
set_option genInjectivity false in
structure SrcOk (J : It) (g : TG) (σ0 : St) (H : Hp) (n : Nat) (st : Nat → St) : Prop where
  go : ∀ i H', i < n → Same H H' → J.go i H'
  stop : ∀ H', Same H H' → J.stop n H'
  yld : ∀ i H' x H'' (R : St → Hp → Prop), i < n → Same H H' → J.yld i H' x H'' → (∀ H3, Same H' H3 → R (st i) H3) → g x σ0 H'' R
  kp : ∀ i, i < n → Kp σ0 (st i)
section
variable {J : It} {g : TG} {σ0 : St} {H : Hp} {n : Nat} {st : Nat → St} {tc : TT} {te : TE} {Q : VK} {D : Addr}
theorem Rp.off {H : Hp} {F : Addr → Prop} {m : Nat} {v : V} {d : Dt} {D : Addr} {xs : List V} {o : HO} (r : Rp H F m v d) (hD : H D = some (.lst xs)) (hF : ¬ F D) : Rp (L2.upd H D o) F m v d := by
  refine r.mono (fun a u e q => ?_) fun _ h => h
  have n : a ≠ D := fun z => by
    subst z
    rw [hD] at e
    cases e
    exact hF (q _ rfl)
  rw [upd_ne n]
  exact e
theorem comp_data {m : Nat} {p : Nat → Bool} {G : Nat → Dt} (S : SrcOk J g σ0 H n st) (hD : H D = none) (hn : n ≤ 100000)
    (ht : ∀ i H' (R : Bool → Hp → Prop), i < n → Same H H' → (∀ H3, Same H' H3 → R (p i) H3) → tc (st i) H' R)
    (he : ∀ i H' (R : VK), i < n → p i = true → Same H H' → (∀ H3 y, Same H' H3 → Rp H3 (FN H') m y (G i) → R y H3) → te (st i) H' R)
    (hd : ∀ H' ys, Same H H' → H' D = some (.lst ys) → Rp H' (FN H) (m + 1) (.ref D) (.lst (((List.range n).filter p).map G)) → Q (.ref D) H') :
    CompW J σ0 g tc te Q H D := by
  refine ⟨fun i k ys H' => k = n - i ∧ i ≤ n ∧ Same H H' ∧ H' D = some (.lst ys) ∧ ys.length = (((List.range i).filter p).map G).length ∧ ∀ (j : Nat) (y : V) (d : Dt), ys[j]? = some y → (((List.range i).filter p).map G)[j]? = some d → Rp H' (fun a => H a = none ∧ a ≠ D) m y d,
    ⟨_, rfl, Nat.zero_le _, same_at (Same.refl _) hD, upd_same, rfl, fun j y d q => by simp at q⟩, ?_⟩
  rintro i k ys H1 ⟨rfl, hi, s1, hl, len, el⟩
  have bnd : ∀ i, (((List.range i).filter p).map G).length ≤ i := fun i => by
    rw [List.length_map]
    exact Nat.le_trans (List.length_filter_le _ _) (by simp)
  by_cases hlt : i < n
  · refine .inr ⟨S.go i H1 hlt s1, fun ys' H' => Same H H' ∧ H' D = some (.lst ys') ∧ ys'.length = (((List.range (i + 1)).filter p).map G).length ∧ ∀ (j : Nat) (y : V) (d : Dt), ys'[j]? = some y → (((List.range (i + 1)).filter p).map G)[j]? = some d → Rp H' (fun a => H a = none ∧ a ≠ D) m y d,
      fun ys' H' q => ⟨n - (i + 1), by (first | assumption | decide | omega), rfl, hlt, q⟩, fun x H2 y => ?_⟩
    refine S.yld i H1 x H2 _ hlt s1 y fun H3 s3 => ⟨S.kp i hlt, ?_⟩
    refine ht i H3 _ hlt (s1.trans s3) fun H4 s4 => ?_
    have hl4 : H4 D = some (.lst ys) := s4 _ _ (s3 _ _ hl)
    have s14 : Same H H4 := s1.trans (s3.trans s4)
    cases hp : p i with
    | false =>
      refine iteF ⟨s14, hl4, ?_, ?_⟩
      · rw [List.range_succ, List.filter_append, List.filter_cons, hp]
        simpa using len
      · intro j y d h1 h2
        have e : ((List.range (i + 1)).filter p).map G = ((List.range i).filter p).map G := by
          rw [List.range_succ, List.filter_append, List.filter_cons, hp]
          simp
        rw [e] at h2
        exact (el j y d h1 h2).same (s3.trans s4)
    | true =>
      refine iteT ?_
      refine he i H4 _ hlt hp s14 fun H5 y s5 ry => ?_
      have hl5 : H5 D = some (.lst ys) := s5 _ _ hl4
      have e : ((List.range (i + 1)).filter p).map G = ((List.range i).filter p).map G ++ [G i] := by
        rw [List.range_succ, List.filter_append, List.filter_cons, hp]
        simp
      refine ⟨hl5, ?_, ?_, upd_same, ?_, ?_⟩
      · have := bnd i
        exact Nat.lt_of_le_of_lt (by (first | assumption | decide | omega) : ys.length ≤ 100000) (by decide)
      · exact same_at (s14.trans s5) hD
      · rw [e, List.length_append, List.length_append, len]
        rfl
      · intro j z d h1 h2
        rw [e] at h2
        have nF : ¬ (H D = none ∧ D ≠ D) := fun q => q.2 rfl
        by_cases hj : j < ys.length
        · rw [List.getElem?_append_left hj] at h1
          rw [List.getElem?_append_left (by (first | assumption | decide | omega))] at h2
          exact ((el j z d h1 h2).same (s3.trans (s4.trans s5))).off hl5 nF
        · have ej : j = ys.length := by
            have := (List.getElem?_eq_some_iff.mp h1).1
            rw [List.length_append] at this
            have : ([y] : List V).length = 1 := rfl
            first | assumption | decide | omega
          subst ej
          rw [List.getElem?_append_right (Nat.le_refl _), Nat.sub_self] at h1
          rw [len, List.getElem?_append_right (Nat.le_refl _), Nat.sub_self] at h2
          cases h1
          cases h2
          refine (ry.imp (F' := fun a => H a = none ∧ a ≠ D) fun a ha => ⟨s14.free ha, fun q => ?_⟩).off hl5 nF
          subst q
          rw [show H4 a = none from ha] at hl4
          cases hl4
  · have e : i = n := by (first | assumption | decide | omega)
    subst e
    refine .inl ⟨S.stop H1 s1, hd H1 ys s1 hl (.lst hl hD ?_ len fun j y d h1 h2 => (el j y d h1 h2).imp fun a q => q.1)⟩
    have := bnd i
    first | assumption | decide | omega
theorem comp_map {m : Nat} {G : Nat → Dt} (S : SrcOk J g σ0 H n st) (hD : H D = none) (hn : n ≤ 100000)
    (he : ∀ i H' (R : VK), i < n → Same H H' → (∀ H3 y, Same H' H3 → Rp H3 (FN H') m y (G i) → R y H3) → te (st i) H' R)
    (hd : ∀ H' ys, Same H H' → H' D = some (.lst ys) → Rp H' (FN H) (m + 1) (.ref D) (.lst ((List.range n).map G)) → Q (.ref D) H') :
    CompW J σ0 g tYes te Q H D := by
  refine comp_data (p := fun _ => true) (m := m) (G := G) S hD hn (fun i H' R _ _ k => k H' (Same.refl _)) (fun i H' R hi _ s k => he i H' R hi s k) fun H' ys s hl r => hd H' ys s hl ?_
  have e : (List.range n).filter (fun _ => true) = List.range n := by simp
  rw [e] at r
  exact r
variable {K : PySem.W.Frag} {a b : Addr} {xs zs : List V}
theorem src_list (h : SqL K H a xs) (h0 : σ0[0]? = some none) : SrcOk (Itl K a) (gName 0) σ0 H xs.length (fun i => σ0.set 0 (some (xs.getD i .non))) where
  go := fun i H' hi s => ⟨xs, xs[i], s.seq h, by simp [hi]⟩
  stop := fun H' s => ⟨xs, s.seq h, Nat.le_refl _⟩
  yld := fun i H' x H'' R hi s y k => by
    obtain ⟨e, hv⟩ := y
    subst e
    have e : x = xs.getD i .non := by
      have := hv xs (s.seq h)
      rw [List.getD_eq_getElem?_getD, this]
      rfl
    subst e
    exact k _ (Same.refl _)
  kp := fun i hi => (Kp.refl _).set h0
theorem src_range {lo : Int} {n : Nat} (h0 : σ0[0]? = some none) : SrcOk (Itr lo n) (gName 0) σ0 H n (fun i => σ0.set 0 (some (.int (lo + i)))) where
  go := fun i H' hi s => hi
  stop := fun H' s => Nat.le_refl _
  yld := fun i H' x H'' R hi s y k => by
    obtain ⟨e, hv⟩ := y
    subst e hv
    exact k _ (Same.refl _)
  kp := fun i hi => (Kp.refl _).set h0
theorem src_enum (h : SqL K H a xs) (h0 : σ0[0]? = some none) (h1 : σ0[1]? = some none) : SrcOk (Ite K a) (gTup K 2 (gCons (gName 0) (gCons (gName 1) gNil))) σ0 H xs.length (fun i => (σ0.set 0 (some (.int i))).set 1 (some (xs.getD i .non))) where
  go := fun i H' hi s => ⟨xs, xs[i], s.seq h, by simp [hi]⟩
  stop := fun H' s => ⟨xs, s.seq h, Nat.le_refl _⟩
  yld := fun i H' x H'' R hi s y k => by
    obtain ⟨p, v, hp, rfl, rfl, hv⟩ := y
    have e : v = xs.getD i .non := by
      have := hv xs (s.seq h)
      rw [List.getD_eq_getElem?_getD, this]
      rfl
    subst e
    exact ⟨p, _, rfl, SqT.of upd_same, rfl, _, _, rfl, _, _, rfl, rfl, k _ (same_new hp)⟩
  kp := fun i hi => ((Kp.refl _).set h0).set h1
end
theorem map_range_getD {α β : Type} (f : α → β) (xs : List α) (d : α) : (List.range xs.length).map (fun i => f (xs.getD i d)) = xs.map f := by
  refine List.ext_getElem (by simp) fun i h1 h2 => ?_
  have hi : i < xs.length := by simpa using h2
  simp [List.getD_eq_getElem?_getD, hi]
end L2
namespace L2
open PySem PySem.Spec PyProof.Rows
section
variable {X : Cx} {tg : Expr}
end
end L2
namespace L2
open PySem PySem.Spec PyProof.Rows
end L2
namespace L2
open PySem PySem.Spec PyProof.Rows
section
variable {X : Cx} {K : PySem.W.Frag} {e st : Expr} {te ts : TE} {pos p2 : Pos}
end
end L2
namespace MM
theorem snoc_ind {α : Type} {p : List α → Prop} (h0 : p []) (h1 : ∀ l a, p l → p (l ++ [a])) : ∀ l, p l := fun l => by
  have h : ∀ r : List α, p r.reverse := fun r => by
    induction r with
    | nil => exact h0
    | cons a r ih => rw [List.reverse_cons]; exact h1 _ _ ih
  have := h l.reverse
  rwa [List.reverse_reverse] at this
theorem or_add_and (a : Nat) : ∀ b : Nat, (a ||| b) + (a &&& b) = a + b := by
  induction a using Nat.strongRecOn with
  | ind a ih =>
    intro b
    by_cases h : a = 0
    · subst h; simp
    · have ih' := ih (a / 2) (by (first | assumption | decide | omega)) (b / 2)
      have e1 : (a ||| b) = 2 * ((a ||| b) / 2) + (a ||| b) % 2 := by (first | assumption | decide | omega)
      have e2 : (a &&& b) = 2 * ((a &&& b) / 2) + (a &&& b) % 2 := by (first | assumption | decide | omega)
      have d1 : (a ||| b) / 2 = a / 2 ||| b / 2 := by simpa using Nat.or_div_two (a := a) (b := b)
      have d2 : (a &&& b) / 2 = a / 2 &&& b / 2 := by simpa using Nat.and_div_two (a := a) (b := b)
      have m1 : (a ||| b) % 2 + (a &&& b) % 2 = a % 2 + b % 2 := by
        have z : ∀ x : Nat, x % 2 = (x.testBit 0).toNat := fun x => by rw [Nat.toNat_testBit]; simp
        rw [z (a ||| b), z (a &&& b), z a, z b, Nat.testBit_or, Nat.testBit_and]
        cases a.testBit 0 <;> cases b.testBit 0 <;> rfl
      rw [d1] at e1
      rw [d2] at e2
      first | assumption | decide | omega
noncomputable def ofB (f : Nat → Bool) : Nat → Nat
  | 0 => 0
  | w + 1 => ofB f w + (f w).toNat * 2 ^ w
theorem ofB_lt (f : Nat → Bool) : ∀ w, ofB f w < 2 ^ w
  | 0 => by simp [ofB]
  | w + 1 => by
    have := ofB_lt f w
    unfold ofB
    rw [Nat.pow_succ]
    cases f w <;> simp <;> omega
theorem ofB_bit (f : Nat → Bool) : ∀ w i, (ofB f w).testBit i = (decide (i < w) && f i)
  | 0, i => by simp [ofB]
  | w + 1, i => by
    have hl := ofB_lt f w
    unfold ofB
    have e : ofB f w + (f w).toNat * 2 ^ w = 2 ^ w * (f w).toNat + ofB f w := by rw [Nat.mul_comm]; omega
    rw [e, Nat.testBit_two_pow_mul_add _ hl]
    by_cases h : i < w
    · rw [if_pos h, ofB_bit f w i]
      simp [h, Nat.lt_succ_of_lt h]
    · rw [if_neg h]
      by_cases h2 : i = w
      · subst h2
        cases f i <;> simp
      · have h3 : ¬ i < w + 1 := by (first | assumption | decide | omega)
        have h4 : i - w ≠ 0 := by (first | assumption | decide | omega)
        have h5 : (1 : Nat).testBit (i - w) = false := by
          obtain ⟨d, hd⟩ : ∃ d, i - w = d + 1 := ⟨i - w - 1, by (first | assumption | decide | omega)⟩
          rw [hd, Nat.testBit_succ]
          simp
        cases f w
        · simp [h3]
        · simp only [Bool.toNat_true, h5, h3, decide_false, Bool.false_and]
theorem ofB_self (m w : Nat) (h : m < 2 ^ w) : ofB m.testBit w = m := by
  refine Nat.eq_of_testBit_eq fun i => ?_
  rw [ofB_bit]
  by_cases hi : i < w
  · simp [hi]
  · have : m.testBit i = false := Nat.testBit_lt_two_pow (Nat.lt_of_lt_of_le h (Nat.pow_le_pow_right (by decide) (by (first | assumption | decide | omega))))
    simp [hi, this]
theorem ofB_congr {f g : Nat → Bool} {w : Nat} (h : ∀ i, i < w → f i = g i) : ofB f w = ofB g w := by
  refine Nat.eq_of_testBit_eq fun i => ?_
  rw [ofB_bit, ofB_bit]
  by_cases hi : i < w
  · simp [hi, h i hi]
  · simp [hi]
theorem eq_ofB {m w : Nat} {f : Nat → Bool} (h : m < 2 ^ w) (b : ∀ i, i < w → m.testBit i = f i) : m = ofB f w := by
  rw [← ofB_self m w h]
  exact ofB_congr b
theorem bit_div (m e : Nat) : m / 2 ^ e % 2 = (m.testBit e).toNat := by
  rw [Nat.testBit_eq_decide_div_mod_eq]
  have : m / 2 ^ e % 2 < 2 := Nat.mod_lt _ (by decide)
  by_cases h : m / 2 ^ e % 2 = 1
  · simp [h]
  · have : m / 2 ^ e % 2 = 0 := by (first | assumption | decide | omega)
    simp [this]
noncomputable def mOf (ns : List Nat) : Nat := ns.foldl (fun m n => m ||| 2 ^ (n - 1)) 0
theorem mOf_snoc (ns : List Nat) (n : Nat) : mOf (ns ++ [n]) = mOf ns ||| 2 ^ (n - 1) := by unfold mOf; rw [List.foldl_append]; rfl
theorem mOf_bit (ns : List Nat) (i : Nat) : (mOf ns).testBit i = ns.any fun n => decide (n - 1 = i) := by
  refine snoc_ind (p := fun ns => (mOf ns).testBit i = ns.any fun n => decide (n - 1 = i)) (by simp [mOf]) (fun l a ih => ?_) ns
  · rw [mOf_snoc, Nat.testBit_or, ih, List.any_append, Nat.testBit_two_pow]
    simp
noncomputable def uOf (ms : List Nat) : Nat := ms.foldl (fun m n => m ||| n) 0
theorem uOf_snoc (ns : List Nat) (n : Nat) : uOf (ns ++ [n]) = uOf ns ||| n := by unfold uOf; rw [List.foldl_append]; rfl
theorem uOf_bit (ns : List Nat) (i : Nat) : (uOf ns).testBit i = ns.any fun n => n.testBit i := by
  refine snoc_ind (p := fun ns => (uOf ns).testBit i = ns.any fun n => n.testBit i) (by simp [uOf]) (fun l a ih => ?_) ns
  rw [uOf_snoc, Nat.testBit_or, ih, List.any_append]; simp
noncomputable def bits (m : Nat) : Nat := if m = 0 then 0 else m.log2 + 1
theorem bits_lt (m : Nat) : m < 2 ^ bits m := by
  unfold bits
  split
  · subst_vars; decide
  · exact Nat.lt_log2_self
theorem bits_le {m w : Nat} (h : m < 2 ^ w) : bits m ≤ w := by
  unfold bits
  split
  · exact Nat.zero_le _
  · rename_i h0
    exact (Nat.log2_lt h0).mpr h
noncomputable def nOf (m : Nat) : List Nat := ((List.range (bits m)).filter m.testBit).map (· + 1)
theorem nOf_mem (m n : Nat) : n ∈ nOf m ↔ 1 ≤ n ∧ m.testBit (n - 1) = true := by
  unfold nOf
  simp only [List.mem_map, List.mem_filter, List.mem_range]
  constructor
  · rintro ⟨k, ⟨_, h⟩, rfl⟩
    exact ⟨by (first | assumption | decide | omega), by simpa using h⟩
  · rintro ⟨h1, h2⟩
    refine ⟨n - 1, ⟨?_, h2⟩, by (first | assumption | decide | omega)⟩
    rcases Nat.lt_or_ge (n - 1) (bits m) with q | q
    · exact q
    · rw [Nat.testBit_lt_two_pow (Nat.lt_of_lt_of_le (bits_lt m) (Nat.pow_le_pow_right (by decide) q))] at h2
      cases h2
theorem nOf_wide {m w : Nat} (h : m < 2 ^ w) : nOf m = ((List.range w).filter m.testBit).map (· + 1) := by
  unfold nOf
  have hb := bits_le h
  obtain ⟨d, rfl⟩ : ∃ d, w = bits m + d := ⟨w - bits m, by (first | assumption | decide | omega)⟩
  congr 1
  rw [List.range_add, List.filter_append]
  have e : ((List.range d).map (bits m + ·)).filter m.testBit = [] := by
    rw [List.filter_eq_nil_iff]
    intro x hx
    obtain ⟨k, _, rfl⟩ := List.mem_map.mp hx
    rw [Nat.testBit_lt_two_pow (Nat.lt_of_lt_of_le (bits_lt m) (Nat.pow_le_pow_right (by decide) (Nat.le_add_right _ _)))]
    simp
  rw [e, List.append_nil]
theorem nOf_len {m w : Nat} (h : m < 2 ^ w) : (nOf m).length ≤ w := by
  rw [nOf_wide h, List.length_map]
  exact Nat.le_trans (List.length_filter_le _ _) (by simp)
theorem full_bit (w i : Nat) : (2 ^ w - 1).testBit i = decide (i < w) := Nat.testBit_two_pow_sub_one w i
end MM
namespace L2
open PySem PySem.Spec PyProof.Rows
section
variable {X : Cx}
theorem pe_gI {x : Str} {i : Int} {pos : Pos} (h : ∃ t, X.mg x = some (.int i t)) (hg : Gl X x := by rfl) (hd : (x == ("__debug__" : Str)) = false := by decide) : PE X (.Name x pos) (tC (.int i)) := by
  obtain ⟨t, e⟩ := h
  exact pe_glob hg e ⟨t, rfl⟩ hd
end
section
variable {H : Hp} {Q : VK} {σ : St} {td ty tv : TE} {D : Ends} {a : Addr} {kvs : List (Key × V)}
end
section
variable {H : Hp} {Q : VK} {σ : St} {K : PySem.W.Frag} {to : TE} {t : TA} {r : V → List V → Hp → VK → Prop} {T : String} {l p q : Addr} {xs ys : List V} {y : V}
theorem rd_bm0 (h : to σ H fun x H1 => tyV K T x H1 ∧ r x [] H1 Q) : tBM0 K T r to σ H Q := h
theorem rd_bm (h : to σ H fun x H1 => tyV K T x H1 ∧ t σ H1 fun xs H2 => r x xs H2 Q) : tBM K T r to t σ H Q := h
theorem tyL {B : Prop} (c : SqL K H l xs) (h : B) : tyV K "list" (.ref l) H ∧ B := ⟨.inl ⟨rfl, xs, c⟩, h⟩
theorem tyI {B : Prop} {i : Int} (h : B) : tyV K "int" (.int i) H ∧ B := ⟨rfl, h⟩
theorem rd_app (c : H l = some (.lst xs)) (b : xs.length < 16777216) (h : Q .non (upd H l (.lst (xs ++ [y])))) : rAppend (.ref l) [y] H Q := ⟨l, xs, y, rfl, rfl, c, by rw [sizeLine_eq]; exact b, h⟩
theorem rd_ext (c : H l = some (.lst xs)) (d : H p = some (.lst ys)) (b : xs.length + ys.length ≤ 16777216) (h : Q .non (upd H l (.lst (xs ++ ys)))) : rExtend (.ref l) [.ref p] H Q := ⟨l, p, xs, ys, rfl, rfl, c, d, by rw [sizeLine_eq]; exact b, h⟩
theorem rd_cat (c : SqL K H l xs) (d : SqL K H p ys) (b : xs.length + ys.length ≤ 16777216) (h : ∀ q, H q = none → Q (.ref q) (upd H q (.lst (xs ++ ys)))) : rCatS K (.ref l) (.ref p) H Q := ⟨l, p, xs, ys, rfl, rfl, c, d, by rw [sizeLine_eq]; exact b, h⟩
theorem rd_rep {k : Int} (c : H l = some (.lst xs)) (b1 : 0 ≤ k) (b2 : k ≤ 100000) (b3 : xs.length ≤ 100) (h : ∀ q, H q = none → Q (.ref q) (upd H q (.lst (List.replicate k.toNat xs).flatten))) : rRep (.ref l) (.int k) H Q :=
  ⟨l, k, xs, rfl, rfl, c, by (first | assumption | decide | omega), by (first | assumption | decide | omega), by
    rw [sizeLine_eq]
    have h1 : k.toNat ≤ 100000 := by (first | assumption | decide | omega)
    exact Nat.le_trans (Nat.mul_le_mul b3 h1) (by decide), h⟩
theorem rd_listOfT {z : Addr} (c : SqT K H z xs) (h : ∀ q, H q = none → Q (.ref q) (upd H q (.lst xs))) : rListOf K [.ref z] H Q := ⟨z, xs, rfl, .inr c, h⟩
theorem rd_tupOf {z : Addr} (c : SqL K H z xs) (h : ∀ q, H q = none → Q (.ref q) (upd H q (.tup xs))) : rTupleOf K [.ref z] H Q := ⟨z, xs, rfl, .inl ⟨c, h⟩⟩
end
end L2
namespace L2
open PySem
open Sem (wp)
open AutoSeq1 (wpAny_loadPart')
section
variable {prog : Program} {w : World} {A : Around} {E : Value → Shared → Prop} {s : Shared}
theorem typeCall_kw {T newId : String} {Bn : Builtin} {v : Value} {x : Str} {u : Value} {Q : Value → Shared → Prop} (ft : TypeCalled T newId "object.__init__") (hne : (some newId != some "object.__new__") = true)
    (hct : checkTypeCall T ⟨[v], [(x, u)]⟩ = pure ()) (hcn : checkBuiltinCall newId ⟨[.type T, v], [(x, u)]⟩ = pure ()) (hok : ∀ obj, argsOk "object.__init__" ⟨[obj, v], [(x, u)]⟩) (entryN : entryFor table newId = some Bn)
    (g : wpAny (model prog w) A.in1.in1 (Bn ⟨[.type T, v], [(x, u)]⟩) (fun fin s1 => ∃ obj, fin = .done (.ret obj) ∧ s1.TypeIs obj T ∧ Q obj s1) E s) : wpAny (model prog w) A (call (.type T) [v] [(x, u)]) Q E s := by
  obtain ⟨c, tl, hmro⟩ := ft.mro
  have hmade := ft.made
  have hsub := ft.sub
  refine wpAny_call (codeAny_of_tree ?_)
  show wpAny _ _ (callAny (.type T) _) _ _ _
  refine wpAny_pure ⟨Code.quiet_builtin _ (by decide +kernel), codeAny_builtin F.entry_type_call ?_⟩
  rw [Around.under_plain (weight_type_call_type T [v] [(x, u)]) (units_type_call_type T [v] [(x, u)])]
  have h1 := ft.notType
  have h2 := ft.canCreate
  repeat (any_goals (first | assumption | wp_step))
  refine codeAny_call_builtin ft.plain entryN (wpAny_of_eq hcn (wpAny_mono g (fun fin s1 q => ?_) fun _ _ q => q))
  obtain ⟨obj, rfl, hT, q⟩ := q
  have hli := ft.init.lookup
  have hbi := ft.init.bind obj
  show wpAny _ _ _ _ _ _
  repeat (any_goals (first | assumption | wp_step))
  refine codeAny_call_builtin ft.init.plain F.entry_object_init (ft.init.check _ _ _ _ _ _ _ _ hT (hok obj) ?_)
  repeat (any_goals (first | assumption | wp_step))
  trace_state
theorem new_enum_kw {v : Value} {t : Tok} {Q : Value → Shared → Prop}
    (h : wpAny (model prog w) A (pyIter v) (fun itv s1 => Q (.ref s1.heap.objs.size) { s1 with heap := s1.heap.push { cls := .type "enumerate", data := .fields #[.none, .bool false, itv, rawInt 1, .none, .none] } }) E s) :
    wpAny (model prog w) A (Builtin.«enumerate.__new__» ⟨[.type "enumerate", v], [("start", .int 1 t)]⟩) (fun fin s1 => ∃ obj, fin = .done (.ret obj) ∧ Q obj s1) E s := by
  have hsub := sub_enumerate
  have hit : ∀ {R : Value → Shared → Prop}, (∀ itv s1, Q (.ref s1.heap.objs.size) { s1 with heap := s1.heap.push { cls := .type "enumerate", data := .fields #[.none, .bool false, itv, rawInt 1, .none, .none] } } → R itv s1) → wpAny (model prog w) A (pyIter v) R E s := fun k => wpAny_mono h k fun _ _ q => q
  unfold Builtin.«enumerate.__new__»
  wp_walk
  refine wpAny_stack_any fun st => wpAny_pure ?_
  split
  · rename_i c _ _ _ _ _
    cases (c == Value.type "enumerate")
    · wp_walk using hit
      intro itv s1 q
      wp_walk
      exact ⟨_, rfl, q⟩
    · wp_walk using hit
      intro itv s1 q
      wp_walk
      exact ⟨_, rfl, q⟩
  · wp_walk using hit
    intro itv s1 q
    wp_walk
    exact ⟨_, rfl, q⟩
theorem call_enumS {v : Value} {t : Tok} {Q : Value → Shared → Prop}
    (h : wpAny (model prog w) A.in1.in1 (pyIter v) (fun itv s1 => ∃ it, itv = .ref it ∧ ∀ h', IsEnum h' s1.heap.objs.size it 1 .none → (∀ b o, s1.heap.get? b = some o → h'.get? b = some o) → h'.objs.size = s1.heap.objs.size + 1 → Q (.ref s1.heap.objs.size) { s1 with heap := h' }) E s) :
    wpAny (model prog w) A (call (.type "enumerate") [v] [("start", .int 1 t)]) Q E s := by
  refine typeCall_kw F.called_enumerate (by decide) (by kernel_rfl) (by kernel_rfl) (fun obj => by unfold argsOk; kernel_rfl) F.entry_enumerate_new (new_enum_kw (wpAny_mono h (fun itv s1 q => ?_) fun _ _ q => q))
  obtain ⟨it, rfl, q⟩ := q
  refine ⟨⟨_, Heap.get?_push_size _ rfl, rfl⟩, q _ (Heap.get?_push_size _ rfl) (fun b o e => Heap.get?_push_of_some _ e) (Heap.size_push ..)⟩
end
theorem shiftD {prog : Program} {w : World} {A : Around} {it : Addr} {fp : List Addr} {n : Nat} {Pv : Nat → Value → Prop} {St : Nat → Heap → Prop} (k : Nat) (D : Draws prog w A it fp n Pv St) :
    Draws prog w A it fp (n + k) (fun i v => ∃ j, i = j + k ∧ Pv j v) (fun i h => ∃ j, i = j + k ∧ St j h) where
  live := fun i h ⟨j, _, st⟩ => D.live j h st
  frame := fun i h h' ⟨j, e, st⟩ q => ⟨j, e, D.frame j h h' st q⟩
  item := fun i s Q E hi ⟨j, e, st⟩ hQ => D.item j s Q E (by (first | assumption | decide | omega)) st fun x h' tk p st' sb => hQ x h' tk ⟨j, e, p⟩ ⟨j + 1, by (first | assumption | decide | omega), st'⟩ sb
  done := fun s Q E ⟨j, e, st⟩ hE => D.done s Q E (by
    have q : j = n := by (first | assumption | decide | omega)
    rw [q] at st
    exact st) hE
theorem kwCall_type {M : Model} {A : Around} {E : Value → Shared → Prop} {s : Shared} {pos : Pos} {T : String} {args : List (Bool × Sem Value)} {kws : List (Option Str × Sem Value)} {Q : Value → Shared → Prop}
    (hp : args.any (·.1) = false) (hk : kws.any (·.1.isNone) = false) (h : wpAny M A (evalArgs (.type T) true args kws) (fun a s1 => wpAny M A (call (.type T) a.pos a.kw) Q E s1) E s) : wpAny M A (callWith pos (.type T) [] args kws) Q E s := by
  unfold callWith
  refine wpAny_bind (wpAny_holding (wpAny_mono h (fun a s1 h1 => wpAny_bind (wpAny_standAt ?_)) fun _ _ q => q))
  simp only [hp, hk, Bool.or_false]
  refine wpAny_bind (wpAny_pure ?_)
  refine wpAny_bind (wpAny_mono h1 (fun r s2 hr => ?_) fun _ _ q => q)
  exact wpAny_bind (wpAny_holding (wpAny_point (wpAny_pure hr)))
end L2
namespace L2
open PySem PySem.Spec PyProof.Rows
theorem drawsS {prog : Program} {w : World} {A : Around} (hh : A.handled = none) (tp : Bool) (it l : Addr) (hne : l ≠ it) (items : Array Value) :
    Draws prog w A it [it, l] items.size (fun i v => items[i]? = some v) (fun i h => SrcIt tp h it l i ∧ SrcSq tp h l items) where
  live := fun _ _ st => let ⟨o, e, _⟩ := srcIt_obj st.1; ⟨o, e⟩
  frame := fun _ _ _ st hk => ⟨srcIt_at st.1 fun o e => hk it (by simp) o e, srcSq_at st.2 fun o e => hk l (by simp) o e⟩
  item := fun i s Q E hi st hQ => src_item st.1 st.2 (x := items[i]) (by simp [hi]) fun h' hit sb => hQ _ h' s.toks (by simp [hi]) ⟨hit, srcSq_at st.2 fun o e => (sb.2 l hne).trans e⟩ sb
  done := fun s Q E st hE => src_end hh st.1 st.2 (by simp) hE
noncomputable def IteS (tp : Bool) (K : PySem.W.Frag) (a : Addr) : It :=
  ⟨fun i H => ∃ xs x, SqS tp K H a xs ∧ xs[i]? = some x, fun i H v H' => ∃ p x, H p = none ∧ v = .ref p ∧ H' = upd H p (.tup [.int ((i + 1 : Nat) : Int), x]) ∧ ∀ xs, SqS tp K H a xs → xs[i]? = some x, fun i H => ∃ xs, SqS tp K H a xs ∧ xs.length ≤ i⟩
theorem turn_enumS {P : Program} {w : World} {K : PySem.W.Frag} {elts : List Expr} {k : Nat} {pos : Pos} (tp : Bool) (a e it : Addr) (hne : e ≠ it) :
    Turn P w K (.Tuple elts k pos) (IteS tp K a) [e, it] e (fun i h => (∃ old, IsEnum h e it ((i + 1 : Nat) : Int) old) ∧ SrcIt tp h it a i) where
  mem := by simp
  obj := fun i h st b hb => by
    obtain ⟨⟨old, he⟩, hi⟩ := st
    obtain ⟨o, eo, d⟩ := srcIt_obj hi
    rcases List.mem_cons.mp hb with z | z
    · subst z
      exact ⟨_, he, fun v z => by cases (show Data.fields _ = Data.cell v from z)⟩
    · have z : b = it := by simpa using z
      subst z
      exact ⟨o, eo, fun v z => by rw [d] at z; cases z⟩
  keep := fun i h h' st kp => by
    obtain ⟨⟨old, he⟩, hi⟩ := st
    exact ⟨⟨old, kp e (by simp) _ he⟩, srcIt_at hi fun o z => kp it (by simp) o z⟩
  item := by
    intro X hP hw hK hc i pins s σ H E I hf st hg
    subst hP hw hK
    obtain ⟨xs, x, hq, hx⟩ := hg
    obtain ⟨its, rv, p⟩ := sqS_src I hq
    obtain ⟨u, hu, ru⟩ := rv.get hx
    obtain ⟨⟨old, he⟩, hi⟩ := st
    obtain ⟨oi, ei, di⟩ := srcIt_obj hi
    obtain ⟨oa, na, ea, da⟩ := srcSq_obj p
    have hel : e < s.heap.objs.size := Heap.lt_size he
    have hil : it < s.heap.objs.size := Heap.lt_size ei
    have nia : a ≠ it := fun z => by
      subst z
      rw [ei] at ea
      cases ea
      rw [di] at da
      cases da
    have nea : e ≠ a := fun z => by
      subst z
      rw [show s.heap.get? e = _ from he] at ea
      cases ea
      cases (show Data.fields _ = Data.seq _ _ from da)
    have hlt : i < its.toArray.size := by
      have := (List.getElem?_eq_some_iff.mp hu).1
      simpa using this
    have D := shiftD 1 (drawsS (prog := X.prog) (w := X.w) (A := X.A.in1) (I.ok.hd hc) tp it a nia its.toArray)
    refine wpAny_pyNext_enum_itemD (i := i + 1) D he ⟨i, rfl, hi, p⟩ (by (first | assumption | decide | omega)) hne (by simp [hne, nea]) fun v h' tk pv ho st' hT hsz hk => ?_
    obtain ⟨j, ej, ev⟩ := pv
    obtain ⟨j2, ej2, hi', p'⟩ := st'
    have ej : j = i := by (first | assumption | decide | omega)
    have ej2 : j2 = i + 1 := by (first | assumption | decide | omega)
    subst ej ej2
    have ev : v = u := by
      rw [show its.toArray[j]? = some u by simpa using hu] at ev
      exact (Option.some.inj ev).symm
    subst ev
    have I0 := I.laid (h' := s.heap.push { cls := .type "tuple", data := .seq #[.int ((j + 1 : Nat) : Int) tk, v] }) (a := s.heap.objs.size) (o := .tup [.int ((j + 1 : Nat) : Int), x]) (t' := tk + 1) (fun _ _ q => Heap.get?_push_of_some _ q) (Nat.le_refl _)
      ⟨(by show 2 ≤ sizeLine; decide), [.int ((j + 1 : Nat) : Int) tk, v], .cons ⟨_, rfl⟩ (.cons ru .nil), ⟨_, Heap.get?_push_size _ rfl, rfl, _, rfl⟩⟩
    have f0 : ∀ b ∈ [e, it], FpOk X pins (upd H s.heap.objs.size (.tup [.int ((j + 1 : Nat) : Int), x])) b := fun b hb => fp_upd (hf b hb) (by
      rcases List.mem_cons.mp hb with z | z
      · rw [z]; exact Nat.ne_of_lt hel
      · rw [show b = it by simpa using z]; exact Nat.ne_of_lt hil)
    have I1 := Inv.turnedL (t' := tk + 1) (h' := h') [e, it] I0 f0 (fun b o hb z => by
      have hb1 : b ≠ e := fun q => hb (by simp [q])
      have hb2 : b ≠ it := fun q => hb (by simp [q])
      rcases Heap.get?_push_cases (show (s.heap.push { cls := .type "tuple", data := .seq #[.int ((j + 1 : Nat) : Int) tk, v] }).get? b = some o from z) with ⟨q1, q2⟩ | q
      · rw [q1, q2]; exact hT
      · exact hk b o hb1 hb2 q)
    refine ⟨.ref s.heap.objs.size, rfl, wpAny_letOwnedTupleGo_enum (s := { s with heap := h', toks := tk + 1 }) ho fun h2 he2 sb => ?_⟩
    exact ⟨.ref s.heap.objs.size, _, Inv.turnedL (t' := tk + 1) (h' := h2) [e, it] I1 f0 (fun b o hb z => (sb.2 b fun q => hb (by simp [q])).trans z), rfl, ⟨_, x, I.fresh, rfl, rfl, fun ys hy => by rw [sqS_inj I hy hq]; exact hx⟩,
      ⟨⟨v, by simpa using he2⟩, srcIt_at hi' fun o z => (sb.2 it hne.symm).trans z⟩, fun b hb => (f0 b hb).1⟩
  done := by
    intro X hP hw hK hc i pins s σ H E I hf st hg
    subst hP hw hK
    obtain ⟨xs, hq, hx⟩ := hg
    obtain ⟨its, rv, p⟩ := sqS_src I hq
    obtain ⟨⟨old, he⟩, hi⟩ := st
    obtain ⟨oi, ei, di⟩ := srcIt_obj hi
    obtain ⟨oa, na, ea, da⟩ := srcSq_obj p
    have hT : s.TypeIs (.ref e) "enumerate" := ⟨_, he, rfl⟩
    have hl := rv.length
    unfold pyNext
    refine wpAny_bind (wpAny_attempt (wpAny_callSpecial?_slot (name := Str.ofString "__next__") hT F.slot_enumerate_next (wpAny_call_entry F.slot_enumerate_next hT F.entry_enumerate_next ?_ (F.args_enumerate_next_1 _))))
    show wpAny _ _ (field (.ref e) 2 >>= _) _ _ _
    refine wpAny_bind (wpAny_field he rfl (x := .ref it) rfl ?_)
    refine wpAny_bind (src_end (A := X.A.in1) (I.ok.hd hc) hi p (by simp; omega) fun h' x eb hx' => ?_)
    obtain ⟨o, ho, hc2⟩ := hx'
    exact wpAny_bind (wpAny_isInstance (T := "StopIteration") (b := true) ⟨o, ho, hc2⟩ isSubtype_stop (wpAny_pure ⟨rfl, I.turnedL (t' := s.toks) [e, it] hf fun b o hb z => eb b o (fun q => hb (by simp [q])) z⟩))
  self := fun _ _ _ _ _ st h => by
    obtain ⟨⟨old, he⟩, _⟩ := st
    exact wpAny_pyIter_enum he h
section
variable {X : Cx} {elts : List Expr} {k : Nat} {tpos : Pos} {K : PySem.W.Frag}
noncomputable def iEnumS (K : PySem.W.Frag) (ta : TA) : TI := fun σ H R => ta σ H fun vs H1 => ∃ tp a, vs = [.ref a] ∧ (∃ xs, SqS tp K H1 a xs) ∧ R (IteS tp K a) H1
theorem pi_enumS {l : Expr} {ta : TA} {p pos kp cp : Pos} {cj : Nat} (hg : Gl X "enumerate") (hm : X.mg "enumerate" = none) (ha : PA X [l] ta) (hK : X.K = K := by rfl) (hs : starEach [l] X.env = [(false, eval l X.env)] := by rfl) :
    PI X (.Tuple elts k tpos) (.Call (.Name "enumerate" p) [l] [⟨some "start", .Constant (.int 1) cj cp, kp⟩] pos) (iEnumS K ta) := by
  subst hK
  intro pins s σ H R I h
  refine wpAny_Call_Name_kw (ld_blt I hg hm boot_enum (kwCall_type (by rw [hs]; rfl) rfl (PyProof.Rows.evalArgs_kw2 rfl ?_ (by rw [hs]; rfl))))
  refine thn (ha pos pins s σ H _ I h) fun us s1 ⟨vs, H1, I1, r1, q1⟩ => PyProof.Rows.kwAll_cons ?_
  refine pe_int pins s1 σ H1 (fun v H2 => v = .int 1 ∧ H2 = H1) I1 ⟨rfl, rfl⟩ |> fun z => thn z fun u s2 zPt => ?_
  obtain ⟨v, H2, I2, r2, ev, eh⟩ := zPt
  subst ev eh
  obtain ⟨t, rfl⟩ := r2
  refine PyProof.Rows.kwAll_nil ?_
  obtain ⟨tp, a, e, ⟨xs, hq⟩, q⟩ := q1
  subst e
  cases r1 with
  | cons r rr =>
    cases rr
    cases r
    obtain ⟨its, rv, pl⟩ := sqS_src I2 hq
    refine call_enumS ?_
    refine src_iter pl ⟨_, rfl, fun h' he hk hsz => ?_⟩
    refine wpAny_pyIter_enum he ?_
    have hz : (s2.heap.push { cls := .type (srcTy tp), data := .fields #[.ref a, .int 0 0] }).objs.size = s2.heap.objs.size + 1 := Heap.size_push ..
    have hk2 : ∀ b o, s2.heap.get? b = some o → h'.get? b = some o := fun b o z => hk b o (Heap.get?_push_of_some _ z)
    have I3 := I2.kept (t' := s2.toks) hk2
    have st : SrcIt tp h' s2.heap.objs.size a 0 := srcIt_at srcIt_new fun o z => hk _ o z
    refine ⟨_, [_, s2.heap.objs.size], _, _, H2, rfl, I3, turn_enumS tp a _ _ (by rw [hz]; exact Nat.succ_ne_self _), ⟨⟨_, he⟩, st⟩, fun b hb => ?_, q⟩
    have hb' : s2.heap.objs.size ≤ b := by
      rcases List.mem_cons.mp hb with z | z
      · rw [z, hz]; exact Nat.le_succ _
      · have z : b = s2.heap.objs.size := by simpa using z
        rw [z]; exact Nat.le_refl _
    exact I2.fpOk hb' (I2.hok.fresh hb')
end
noncomputable def Isq (tp : Bool) (K : PySem.W.Frag) (a : Addr) : It := if tp = true then Itt K a else Itl K a
section
variable {X : Cx} {tg : Expr} {K : PySem.W.Frag}
noncomputable def iSq (K : PySem.W.Frag) (tl : TE) : TI := fun σ H R => tl σ H fun x H1 => ∃ tp a, x = .ref a ∧ (∃ xs, SqS tp K H1 a xs) ∧ R (Isq tp K a) H1
theorem pi_sq {l : Expr} {tl : TE} (hl : PE X l tl) (hK : X.K = K := by rfl) : PI X tg l (iSq K tl) := by
  subst hK
  intro pins s σ H R I h
  refine thn (hl pins s σ H _ I h) fun v s1 zPt => ?_
  obtain ⟨x, H1, I1, r1, q1⟩ := zPt
  obtain ⟨tp, a, e, ⟨xs, hq⟩, q⟩ := q1
  subst e
  cases r1
  cases tp with
  | false =>
    obtain ⟨its, rv, p, hz⟩ := I1.list (show SqL X.K H1 a xs from hq)
    refine wpAny_pyIter_list p.isList ?_
    refine ⟨s1.heap.objs.size, [s1.heap.objs.size], _, _, H1, rfl, I1.kept (t' := s1.toks) fun b o e => Heap.get?_push_of_some _ e, turn_list a _, ⟨_, Heap.get?_push_size _ rfl, rfl, rfl⟩, fun b hb => ?_, q⟩
    have e : b = s1.heap.objs.size := by simpa using hb
    subst e
    exact I1.fpOk (Nat.le_refl _) (I1.hok.fresh (Nat.le_refl _))
  | true =>
    obtain ⟨its, rv, p, hz⟩ := I1.tuple (show SqT X.K H1 a xs from hq)
    refine wpAny_pyIter_tuple (show s1.heap.IsTuple a its.toArray from p) ?_
    refine ⟨s1.heap.objs.size, [s1.heap.objs.size], _, _, H1, rfl, I1.kept (t' := s1.toks) fun b o e => Heap.get?_push_of_some _ e, turn_tuple a _, ⟨_, Heap.get?_push_size _ rfl, rfl, rfl⟩, fun b hb => ?_, q⟩
    have e : b = s1.heap.objs.size := by simpa using hb
    subst e
    exact I1.fpOk (Nat.le_refl _) (I1.hok.fresh (Nat.le_refl _))
end
set_option genInjectivity false in
structure FSrc (J : It) (g : TG) (H : Hp) (n : Nat) (set : Nat → St → St) : Prop where
  go : ∀ i H', i < n → Same H H' → J.go i H'
  stop : ∀ H', Same H H' → J.stop n H'
  yld : ∀ i σ H' x H'' (R : St → Hp → Prop), i < n → Same H H' → J.yld i H' x H'' → (∀ H3, Same H' H3 → R (set i σ) H3) → g x σ H'' R
theorem for_src {J : It} {g : TG} {H : Hp} {n : Nat} {set : Nat → St → St} {tb : TS} {D : Ends} {σ : St} (S : FSrc J g H n set) (Pv : Nat → St → Hp → Prop) (h0 : Pv 0 σ H) (hk : ∀ i σ H', Pv i σ H' → Same H H')
    (hs : ∀ i σ H' H3, i < n → Pv i σ H' → Same H' H3 → tb { D with nx := Pv (i + 1), ct := Pv (i + 1), bk := D.nx } (set i σ) H3) (hd : ∀ σ H', Pv n σ H' → D.nx σ H') :
    ∃ W : Nat → Nat → St → Hp → Prop, (∃ m, W 0 m σ H) ∧ ∀ i m σ H, W i m σ H →
      (J.stop i H ∧ D.nx σ H) ∨ (J.go i H ∧ ∃ N : St → Hp → Prop, (∀ σ' H', N σ' H' → ∃ m', m' < m ∧ W (i + 1) m' σ' H') ∧ ∀ x H', J.yld i H x H' → g x σ H' fun σ2 H2 => tb { D with nx := N, ct := N, bk := D.nx } σ2 H2) := by
  refine ⟨fun i m σ H' => m = n - i ∧ i ≤ n ∧ Pv i σ H', ⟨n, by simp, Nat.zero_le _, h0⟩, ?_⟩
  rintro i m σ H1 ⟨rfl, hi, p⟩
  by_cases hlt : i < n
  · exact .inr ⟨S.go i H1 hlt (hk _ _ _ p), Pv (i + 1), fun σ' H' p' => ⟨n - (i + 1), by (first | assumption | decide | omega), rfl, hlt, p'⟩, fun x H' y => S.yld i σ H1 x H' _ hlt (hk _ _ _ p) y fun H3 s3 => hs i σ H1 H3 hlt p s3⟩
  · have e : i = n := by (first | assumption | decide | omega)
    subst e
    exact .inl ⟨S.stop H1 (hk _ _ _ p), hd σ H1 p⟩
section
variable {K : PySem.W.Frag} {H : Hp} {a b : Addr} {xs zs : List V} {tp t1 t2 : Bool} {i1 i2 : Nat}
theorem fs_sq (h : SqS tp K H a xs) : FSrc (Isq tp K a) (gName i1) H xs.length (fun i σ => σ.set i1 (some (xs.getD i .non))) := by
  cases tp with
  | false => exact {
      go := fun i H' hi s => ⟨xs, xs[i], SqS.same (tp := false) h s, by simp [hi]⟩
      stop := fun H' s => ⟨xs, SqS.same (tp := false) h s, Nat.le_refl _⟩
      yld := fun i σ H' x H'' R hi s y k => by
        obtain ⟨e, hv⟩ := y
        subst e
        have e : x = xs.getD i .non := by
          rw [List.getD_eq_getElem?_getD, hv xs (SqS.same (tp := false) h s)]
          rfl
        subst e
        exact k _ (Same.refl _) }
  | true => exact {
      go := fun i H' hi s => ⟨xs, xs[i], SqS.same (tp := true) h s, by simp [hi]⟩
      stop := fun H' s => ⟨xs, SqS.same (tp := true) h s, Nat.le_refl _⟩
      yld := fun i σ H' x H'' R hi s y k => by
        obtain ⟨e, hv⟩ := y
        subst e
        have e : x = xs.getD i .non := by
          rw [List.getD_eq_getElem?_getD, hv xs (SqS.same (tp := true) h s)]
          rfl
        subst e
        exact k _ (Same.refl _) }
theorem fs_tup (h : SqT K H a xs) : FSrc (Itt K a) (gName i1) H xs.length (fun i σ => σ.set i1 (some (xs.getD i .non))) := fs_sq (tp := true) h
theorem fs_range {lo : Int} {n : Nat} : FSrc (Itr lo n) (gName i1) H n (fun i σ => σ.set i1 (some (.int (lo + i)))) where
  go := fun i H' hi s => hi
  stop := fun H' s => Nat.le_refl _
  yld := fun i σ H' x H'' R hi s y k => by
    obtain ⟨e, hv⟩ := y
    subst e hv
    exact k _ (Same.refl _)
theorem fs_enumS (h : SqS tp K H a xs) : FSrc (IteS tp K a) (gTup K 2 (gCons (gName i1) (gCons (gName i2) gNil))) H xs.length (fun i σ => (σ.set i1 (some (.int ((i + 1 : Nat) : Int)))).set i2 (some (xs.getD i .non))) where
  go := fun i H' hi s => ⟨xs, xs[i], h.same s, by simp [hi]⟩
  stop := fun H' s => ⟨xs, h.same s, Nat.le_refl _⟩
  yld := fun i σ H' x H'' R hi s y k => by
    obtain ⟨p, v, hp, rfl, rfl, hv⟩ := y
    have e : v = xs.getD i .non := by
      rw [List.getD_eq_getElem?_getD, hv xs (h.same s)]
      rfl
    subst e
    exact ⟨p, _, rfl, SqT.of upd_same, rfl, _, _, rfl, _, _, rfl, rfl, k _ (same_new hp)⟩
theorem FSrc.src {J : It} {g : TG} {n : Nat} {set : Nat → St → St} {σ0 : St} (S : FSrc J g H n set) (kp : ∀ i, i < n → Kp σ0 (set i σ0)) : SrcOk J g σ0 H n (fun i => set i σ0) where
  go := S.go
  stop := S.stop
  yld := fun i H' x H'' R hi s y k => S.yld i σ0 H' x H'' R hi s y k
  kp := kp
theorem src_enumS {σ0 : St} (h : SqS tp K H a xs) (h0 : σ0[0]? = some none) (h1 : σ0[1]? = some none) : SrcOk (IteS tp K a) (gTup K 2 (gCons (gName 0) (gCons (gName 1) gNil))) σ0 H xs.length (fun i => (σ0.set 0 (some (.int ((i + 1 : Nat) : Int)))).set 1 (some (xs.getD i .non))) :=
  (fs_enumS h).src fun i _ => ((Kp.refl _).set h0).set h1
end
end L2
namespace L2
open PySem PySem.Spec PyProof.Rows
theorem bA (a b : Nat) : Builtin.bitAnd (a : Int) (b : Int) = ((a &&& b : Nat) : Int) := by
  rw [PyProof.Rows.bitAnd_pp (by (first | assumption | decide | omega)) (by (first | assumption | decide | omega))]
  rfl
theorem bO (a b : Nat) : Builtin.bitOr (a : Int) (b : Int) = ((a ||| b : Nat) : Int) := by
  have h := MM.or_add_and a b
  rw [PyProof.Rows.bitOr_and, bA]
  first | assumption | decide | omega
theorem bits_eq (m : Nat) : ((Builtin.Int.intBits (m : Int) : Nat) : Int) = ((MM.bits m : Nat) : Int) := by
  unfold Builtin.Int.intBits MM.bits
  by_cases h : m = 0
  · subst h; rfl
  · have e : ((m : Int) == 0) = false := by simp [h]
    rw [e, if_neg h]
    simp
theorem pow_cast (n : Nat) : (1 : Int) * 2 ^ n = ((2 ^ n : Nat) : Int) := by
  rw [Int.one_mul]
  push_cast
  rfl
section
variable {X : Cx}
noncomputable def rBits : V → List V → Hp → VK → Prop := fun x vs H Q => ∃ i : Int, x = .int i ∧ vs = [] ∧ Q (.int (Builtin.Int.intBits i : Nat)) H
theorem mt_bit_length : MtM X "int.bit_length" rBits := by
  intro pins s σ H x vs v us Q I rx rv h
  obtain ⟨i, rfl, rfl, q⟩ := h
  obtain ⟨t, rfl⟩ := rx
  have hus := rv.zero
  subst hus
  exact PyProof.Rows.call_int_bit_length ⟨.int _, H, I.tok _, ⟨_, rfl⟩, q⟩
end
section
variable {H : Hp} {Q : VK} {σ : St} {D : Ends} {te : TE} {ti : TIp} {i : Nat} {x : V}
theorem rd_bits {m : Nat} (h : Q (.int (MM.bits m : Nat)) H) : rBits (.int (m : Nat)) [] H Q := ⟨m, rfl, rfl, by rw [bits_eq]; exact h⟩
theorem rd_aug (e : σ[i]? = some (some x)) (h : te σ H fun y H1 => ti x y H1 fun z H2 => D.nx (σ.set i (some z)) H2) : tAug i te ti D σ H := ⟨x, e, h⟩
end
noncomputable abbrev nV (n : Nat) : V := .int (n : Nat)
theorem getD_nat {ns : List Nat} {i : Nat} (h : i < (ns.map nV).length) : (ns.map nV).getD i .non = .int (ns.getD i 0 : Nat) := by
  have h' : i < ns.length := by simpa using h
  simp [List.getD_eq_getElem?_getD, h']
theorem getD_int {ns : List Int} {i : Nat} (h : i < (ns.map V.int).length) : (ns.map V.int).getD i .non = .int (ns.getD i 0) := by
  have h' : i < ns.length := by simpa using h
  simp [List.getD_eq_getElem?_getD, h']
theorem atI_natV {ns : List Nat} {k : Int} (h0 : 0 ≤ k) (h1 : k < ns.length) : atI (ns.map nV) k = some (.int (ns.getD k.toNat 0 : Nat)) := by
  obtain ⟨j, rfl⟩ : ∃ j : Nat, k = j := ⟨k.toNat, by (first | assumption | decide | omega)⟩
  have h' : j < ns.length := by (first | assumption | decide | omega)
  refine atI_nat ?_
  rw [show ((j : Int)).toNat = j by (first | assumption | decide | omega)]
  simp [List.getD_eq_getElem?_getD, h']
theorem take_getD {ns : List Nat} {i : Nat} (h : i < ns.length) : ns.take (i + 1) = ns.take i ++ [ns.getD i 0] := by
  rw [List.take_succ_eq_append_getElem h]
  simp [List.getD_eq_getElem?_getD, h]
theorem ints_comp {J : It} {g : TG} {σ0 : St} {H : Hp} {n : Nat} {st : Nat → St} {te : TE} {Q : VK} {D : Addr} {G : Nat → Int} (S : SrcOk J g σ0 H n st) (hD : H D = none) (hn : n ≤ 100000)
    (he : ∀ i H' (R : VK), i < n → Same H H' → (∀ H3, Same H' H3 → R (.int (G i)) H3) → te (st i) H' R)
    (hd : ∀ H', Same H H' → H' D = some (.lst (((List.range n).map G).map V.int)) → Q (.ref D) H') : CompW J σ0 g tYes te Q H D := by
  refine comp_map (m := 0) (G := fun i => .int (G i)) S hD hn (fun i H' R hi s k => he i H' R hi s fun H3 s3 => k H3 _ s3 (.int _)) fun H' ys s hl r => ?_
  have e : (List.range n).map (fun i => Dt.int (G i)) = ((List.range n).map G).map Dt.int := by rw [List.map_map]; rfl
  rw [e] at r
  obtain ⟨b, eb, hb, fb⟩ := ints_of r
  cases eb
  exact hd H' s hb
theorem ints_compF {J : It} {g : TG} {σ0 : St} {H : Hp} {n : Nat} {st : Nat → St} {tc : TT} {te : TE} {Q : VK} {D : Addr} {p : Nat → Bool} {G : Nat → Int} (S : SrcOk J g σ0 H n st) (hD : H D = none) (hn : n ≤ 100000)
    (ht : ∀ i H' (R : Bool → Hp → Prop), i < n → Same H H' → (∀ H3, Same H' H3 → R (p i) H3) → tc (st i) H' R)
    (he : ∀ i H' (R : VK), i < n → p i = true → Same H H' → (∀ H3, Same H' H3 → R (.int (G i)) H3) → te (st i) H' R)
    (hd : ∀ H', Same H H' → H' D = some (.lst ((((List.range n).filter p).map G).map V.int)) → Q (.ref D) H') : CompW J σ0 g tc te Q H D := by
  refine comp_data (m := 0) (p := p) (G := fun i => .int (G i)) S hD hn ht (fun i H' R hi hp s k => he i H' R hi hp s fun H3 s3 => k H3 _ s3 (.int _)) fun H' ys s hl r => ?_
  have e : ((List.range n).filter p).map (fun i => Dt.int (G i)) = (((List.range n).filter p).map G).map Dt.int := by rw [List.map_map]; rfl
  rw [e] at r
  obtain ⟨b, eb, hb, fb⟩ := ints_of r
  cases eb
  exact hd H' s hb
theorem bls_comp {J : It} {g : TG} {σ0 : St} {H : Hp} {n : Nat} {st : Nat → St} {te : TE} {Q : VK} {D : Addr} {G : Nat → Bool} (S : SrcOk J g σ0 H n st) (hD : H D = none) (hn : n ≤ 100000)
    (he : ∀ i H' (R : VK), i < n → Same H H' → (∀ H3, Same H' H3 → R (.bl (G i)) H3) → te (st i) H' R)
    (hd : ∀ H', Same H H' → H' D = some (.lst (((List.range n).map G).map V.bl)) → Q (.ref D) H') : CompW J σ0 g tYes te Q H D := by
  refine comp_map (m := 0) (G := fun i => .bl (G i)) S hD hn (fun i H' R hi s k => he i H' R hi s fun H3 s3 => k H3 _ s3 (.bl _)) fun H' ys s hl r => ?_
  have e : ys = ((List.range n).map G).map V.bl := by
    cases r with
    | @lst _ _ vs _ q f b l ee =>
      rw [hl] at q
      cases q
      refine List.ext_getElem (by simpa using l) fun i h1 h2 => ?_
      have hi : i < n := by simpa using h2
      have := ee i ys[i] (.bl (G i)) (by simp [h1]) (by simp [hi])
      cases hv : ys[i] <;> rw [hv] at this <;> cases this
      simp
  rw [e] at hl
  exact hd H' s hl
end L2
namespace L2
open PySem PySem.Spec PyProof.Rows
noncomputable def MethF (P : Program) (w : World) (K : PySem.W.Frag) (mg : Str → Option Value) (base : Heap) (C : Addr) (m : Str) (k : Nat) (ps : List Str) (sp : Sp) : Prop :=
  ∃ f fd, Cls K C ∧ Meth K C m f ∧ FnOk P w K mg base CX0 k f fd ps sp ∧ Binds K fd ps []
section
variable {X : Cx} {x m : Str} {C : Addr} {k : Nat} {ps : List Str} {sp : Sp} {o e : Expr} {es : List Expr} {t : TA} {ta : TE} {p pos apos : Pos}
theorem pe_methF {pl : Sem Bool} (he : PE X o ta) (h : MethF X.prog X.w X.K X.mg X.base C m k ps sp) (hr : Room k X.A) (ha : PA X (e :: es) t)
    (hst : starEach (e :: es) X.env = (false, eval e X.env) :: starEach es X.env := by rfl) (hpl : (backTo pos (starEach es X.env)).any (·.1) = false := by rfl)
    (ht : eval (.Call (.Attribute o m apos) (e :: es) [] pos) X.env = (do
      let ov ← eval o X.env
      standAt apos.atName
      let (f, first) ← holding [ov] (getMethod ov m pl)
      callWith pos f first (backTo pos (starEach (e :: es) X.env)) (backToKw pos (keywordEach [] X.env))) := by rfl) :
    PE X (.Call (.Attribute o m apos) (e :: es) [] pos) (tMeth C m sp [] E0 ta t) := by
  obtain ⟨f, fd, c, hm, F, hb⟩ := h
  exact pe_meth (pl := pl) he c hm F hr hb .nil pass0 ha hst hpl ht
theorem pe_methF0 {pl : Sem Bool} (he : PE X o ta) (h : MethF X.prog X.w X.K X.mg X.base C m k ps sp) (hr : Room k X.A)
    (ht : eval (.Call (.Attribute o m apos) [] [] pos) X.env = (do
      let ov ← eval o X.env
      standAt apos.atName
      let (f, first) ← holding [ov] (getMethod ov m pl)
      callWith pos f first (backTo pos (starEach [] X.env)) (backToKw pos (keywordEach [] X.env))) := by rfl) :
    PE X (.Call (.Attribute o m apos) [] [] pos) (tMeth C m sp [] E0 ta tNil) := by
  obtain ⟨f, fd, c, hm, F, hb⟩ := h
  exact pe_meth0 (pl := pl) he c hm F hr hb .nil pass0 ht
theorem pe_gC {x : Str} {C : Addr} {pos : Pos} (h : X.mg x = some (.ref C)) (hg : Gl X x := by rfl) (hd : (x == ("__debug__" : Str)) = false := by decide) : PE X (.Name x pos) (tC (.ref C)) := pe_glob hg h rfl hd
noncomputable def rIsinC (K : PySem.W.Frag) : List V → Hp → VK → Prop := fun xs H Q => ∃ (y : V) (C : Addr) (t : Value) (b : Bool), xs = [y, .ref C] ∧ TyOf K H y t ∧ PySem.W.kitOne K t (.ref C) = some b ∧ Q (.bl b) H
theorem k_isinC {K : PySem.W.Frag} (hK : X.K = K := by rfl) : CallR X (.builtin "isinstance") (rIsinC K) := by
  subst hK
  intro pins s σ H xs us Q I r h
  obtain ⟨y, C, t, b, rfl, ty, e, q⟩ := h
  obtain ⟨u, c, rfl, rx, rc⟩ := vals2 r
  cases rc
  exact isinst_ok I rx ty e fun tk => ⟨.bl b, H, I.tok tk, rfl, q⟩
end
set_option genInjectivity false in
structure Kind (K : PySem.W.Frag) (C : Addr) : Prop where
  cl : Cls K C
  ha : PySem.W.findIn K (.ref C) "__class__" = some (some (.builtin "object.__class__"))
  hn : PySem.W.specialIn K (.builtin "object.__class__") "__get__" = some (some (.builtin "getset_descriptor.__get__"))
  htk : PySem.W.takesIn K (.builtin "object.__class__") = some true
  hm : PySem.W.mroIn K C (.type "object") = some true
theorem Kind.ty {K : PySem.W.Frag} {C a dx : Addr} {H : Hp} {fs : List (Str × V)} (k : Kind K C) (e : H a = some (.ins C dx fs)) : TyOf K H (.ref a) (.ref C) := .ins e k.cl k.ha k.hn k.htk k.hm
section
variable {K : PySem.W.Frag} {H : Hp} {Q : VK} {σ : St} {D : Ends} {te tv : TE} {t : TA} {a C dx : Addr} {fs : List (Str × V)} {f : Str} {v : V} {sp : Sp}
theorem rd_isinC {y : V} {ty : Value} {b : Bool} (c : TyOf K H y ty) (e : PySem.W.kitOne K ty (.ref C) = some b) (h : Q (.bl b) H) : rIsinC K [y, .ref C] H Q := ⟨y, C, ty, b, rfl, c, e, h⟩
theorem rd_fld (h : te σ H fun x H1 => ∃ a C dx fs v, x = .ref a ∧ H1 a = some (.ins C dx fs) ∧ Cls K C ∧ NoAttr K C f ∧ fs.lookup f = some v ∧ Q v H1) : tFld K te f σ H Q := h
theorem rd_put (h : tv σ H fun y H1 => te σ H1 fun x H2 => ∃ a C dx fs, x = .ref a ∧ H2 a = some (.ins C dx fs) ∧ Cls K C ∧ NoAttr K C f ∧ fs.length < 1000 ∧ D.nx σ (upd H2 a (.ins C dx (putF f y fs)))) : sFld K te tv f D σ H := h
theorem rd_set {y : V} (e : H a = some (.ins C dx fs)) (c : Cls K C) (n : NoAttr K C f) (l : fs.length < 1000) (h : D.nx σ (upd H a (.ins C dx (putF f y fs)))) : ∃ a' C' dx' fs', V.ref a = .ref a' ∧ H a' = some (.ins C' dx' fs') ∧ Cls K C' ∧ NoAttr K C' f ∧ fs'.length < 1000 ∧ D.nx σ (upd H a' (.ins C' dx' (putF f y fs'))) := ⟨a, C, dx, fs, rfl, e, c, n, l, h⟩
theorem rd_make (h : t σ H fun vs H1 => ∀ x dx, H1 x = none → H1 dx = none → dx ≠ x → sp (.ref x :: vs) (upd (upd H1 dx (.own x)) x (.ins C dx [])) (fun v H2 => v = .non ∧ Q (.ref x) H2) E0) : tMake C sp [] E0 t σ H Q := by
  unfold tMake
  simpa using h
theorem rd_meth {m : Str} (h : te σ H fun x H1 => ∃ a dx fs, x = .ref a ∧ H1 a = some (.ins C dx fs) ∧ fs.lookup m = none ∧ t σ H1 fun vs H2 => sp (x :: vs) H2 Q E0) : tMeth C m sp [] E0 te t σ H Q := by
  unfold tMeth
  simpa using h
end
theorem rd_chain {r r' : R2} {ta tb tc : TE} {σ : St} {H : Hp} {Q : VK} (h : ta σ H fun x H1 => tb σ H1 fun y H2 => r x y H2 fun z H3 => ∃ k, z = .bl k ∧ (if k = true then tc σ H3 fun w' H4 => r' y w' H4 Q else Q (.bl false) H3)) : tChain r r' ta tb tc σ H Q := h
noncomputable def amongV (x : V) (a b : Int) : Bool := match x with | .int i => decide (a ≤ i) && decide (i ≤ b) | _ => false
theorem fin_b {b b' : Bool} {Q : VK} {H : Hp} (e : b = b') (h : Q (.bl b') H) : Q (.bl b) H := e ▸ h
theorem iteC {b : Bool} {A B : Prop} (h1 : b = true → A) (h2 : b = false → B) : if b = true then A else B := by
  cases b with
  | true => exact h1 rfl
  | false => exact h2 rfl
theorem same_obj {H : Hp} {x dx : Addr} {o : HO} {u : HO} (h1 : H x = none) (h2 : H dx = none) : Same H (upd (upd H dx u) x o) := fun b q e => by
  rw [upd_ne (ne_of_none e h1), upd_ne (ne_of_none e h2)]
  exact e
end L2
namespace L2
open PySem PySem.Spec PyProof.Rows
mutual
noncomputable def eqD : Dt → Dt → Bool
  | .non, .non => true
  | .bl a, .bl b => a == b
  | .int a, .int b => a == b
  | .str a, .str b => a == b
  | .bl a, .int b => (if a then 1 else 0) == b
  | .int a, .bl b => a == (if b then 1 else 0)
  | .lst xs, .lst ys => eqDs xs ys
  | .tup xs, .tup ys => eqDs xs ys
  | _, _ => false
noncomputable def eqDs : List Dt → List Dt → Bool
  | [], [] => true
  | x :: xs, y :: ys => eqD x y && eqDs xs ys
  | _, _ => false
end
theorem eqDs_len : ∀ {xs ys : List Dt}, xs.length ≠ ys.length → eqDs xs ys = false
  | [], [], h => absurd rfl h
  | [], _ :: _, _ => by unfold eqDs; rfl
  | _ :: _, [], _ => by unfold eqDs; rfl
  | x :: xs, y :: ys, h => by
    unfold eqDs
    rw [eqDs_len (xs := xs) (ys := ys) (fun e => h (by simp [e])), Bool.and_false]
theorem eqDs_all : ∀ {xs ys : List Dt}, xs.length = ys.length → eqDs xs ys = (List.range xs.length).all fun i => eqD (xs.getD i .non) (ys.getD i .non)
  | [], [], _ => by unfold eqDs; rfl
  | [], _ :: _, h => by simp at h
  | _ :: _, [], h => by simp at h
  | x :: xs, y :: ys, h => by
    unfold eqDs
    rw [eqDs_all (xs := xs) (ys := ys) (by simpa using h), List.length_cons, List.range_succ_eq_map, List.all_cons, List.all_map]
    rfl
mutual
theorem eqD_refl : ∀ d : Dt, eqD d d = true
  | .non => by unfold eqD; rfl
  | .bl a => by unfold eqD; simp
  | .int a => by unfold eqD; simp
  | .str a => by unfold eqD; simp
  | .lst xs => by unfold eqD; exact eqDs_refl xs
  | .tup xs => by unfold eqD; exact eqDs_refl xs
theorem eqDs_refl : ∀ d : List Dt, eqDs d d = true
  | [] => by unfold eqDs; rfl
  | x :: xs => by unfold eqDs; rw [eqD_refl x, eqDs_refl xs]; rfl
end
theorem Rp.inj {H : Hp} {F G : Addr → Prop} {n m : Nat} {v : V} {d e : Dt} (r : Rp H F n v d) (r2 : Rp H G m v e) : d = e := by
  induction r generalizing m e with
  | non => cases r2; rfl
  | bl b => cases r2; rfl
  | int i => cases r2; rfl
  | str z => cases r2; rfl
  | @lst n a vs ds h f b l el ih =>
    cases r2 with
    | @lst m _ vs2 ds2 h2 f2 b2 l2 el2 =>
      rw [h] at h2
      cases h2
      congr 1
      refine List.ext_getElem (by (first | assumption | decide | omega)) fun i h1 h3 => ?_
      have hv : i < vs.length := by (first | assumption | decide | omega)
      exact ih i vs[i] ds[i] (by simp [hv]) (by simp [h1]) (el2 i vs[i] ds2[i] (by simp [hv]) (by simp [h3]))
    | tup h2 _ _ _ => rw [h] at h2; cases h2
  | @tup n a vs ds h b l el ih =>
    cases r2 with
    | @tup m _ vs2 ds2 h2 b2 l2 el2 =>
      rw [h] at h2
      cases h2
      congr 1
      refine List.ext_getElem (by (first | assumption | decide | omega)) fun i h1 h3 => ?_
      have hv : i < vs.length := by (first | assumption | decide | omega)
      exact ih i vs[i] ds[i] (by simp [hv]) (by simp [h1]) (el2 i vs[i] ds2[i] (by simp [hv]) (by simp [h3]))
    | lst h2 _ _ _ _ => rw [h] at h2; cases h2
section
variable {X : Cx} {pins : List (Addr × Obj)} {σ : St} {H : Hp} {s : Shared}
theorem at_item {F G : Addr → Prop} {n : Nat} {xs ys : List V} {ds es : List Dt} {its its2 : List Value} {A : Around} (r : Vals xs its) (r2 : Vals ys its2) (l1 : xs.length = ds.length) (l2 : ys.length = es.length)
    (el : ∀ (i : Nat) (v : V) (d : Dt), xs[i]? = some v → ds[i]? = some d → Rp H F n v d) (el2 : ∀ (i : Nat) (v : V) (d : Dt), ys[i]? = some v → es[i]? = some d → Rp H G n v d)
    (ih : ∀ {v u : V} {d e : Dt} {rv ru : Value}, Rp H F n v d → Rp H G n u e → RelV v rv → RelV u ru → SeqAt.EqAt A s rv ru (eqD d e)) :
    ∀ j (h1 : j < its.toArray.size) (h2 : j < its2.toArray.size), SeqAt.EqAt A s its.toArray[j] its2.toArray[j] (eqD (ds.getD j .non) (es.getD j .non)) := fun j h1 h2 => by
  have k1 := r.length
  have k2 := r2.length
  have h1' : j < its.length := by simpa using h1
  have h2' : j < its2.length := by simpa using h2
  have g1 : xs[j]? = some (xs.getD j .non) := by rw [List.getD_eq_getElem?_getD, List.getElem?_eq_getElem (by (first | assumption | decide | omega))]; rfl
  have g2 : ys[j]? = some (ys.getD j .non) := by rw [List.getD_eq_getElem?_getD, List.getElem?_eq_getElem (by (first | assumption | decide | omega))]; rfl
  have d1 : ds[j]? = some (ds.getD j .non) := by rw [List.getD_eq_getElem?_getD, List.getElem?_eq_getElem (by (first | assumption | decide | omega))]; rfl
  have d2 : es[j]? = some (es.getD j .non) := by rw [List.getD_eq_getElem?_getD, List.getElem?_eq_getElem (by (first | assumption | decide | omega))]; rfl
  obtain ⟨u, e1, ru⟩ := r.get g1
  obtain ⟨u2, e2, ru2⟩ := r2.get g2
  have q1 : its.toArray[j] = u := by rw [List.getElem?_eq_getElem h1'] at e1; simpa using Option.some.inj e1
  have q2 : its2.toArray[j] = u2 := by rw [List.getElem?_eq_getElem h2'] at e2; simpa using Option.some.inj e2
  rw [q1, q2]
  exact ih (el j _ _ g1 d1) (el2 j _ _ g2 d2) ru ru2
theorem in1_units (A : Around) : A.in1.units = A.units + 1 := rfl
theorem eqAt_D (I : Inv X pins σ H s) {F G : Addr → Prop} : ∀ {n : Nat} {A : Around} {v u : V} {d e : Dt} {rv ru : Value}, Rp H F n v d → Rp H G n u e → RelV v rv → RelV u ru → A.units + n < cLine → SeqAt.EqAt A s rv ru (eqD d e) := by
  intro n
  have sc : ∀ {n m : Nat} {A : Around} {v u : V} {d e : Dt} {rv ru : Value}, Rp H F n v d → Rp H G m u e → (isLst d || isTup d) = false → (isLst e || isTup e) = false → RelV v rv → RelV u ru → SeqAt.EqAt A s rv ru (eqD d e) := by
    intro n m A v u d e rv ru r r2 n1 n2 rr rr2
    cases r with
    | non =>
      cases rr
      cases r2 with
      | non =>
        cases rr2
        simp only [eqD]
        exact (show SeqAt.EqAt A s Value.none Value.none true from SeqAt.EqAt.same _)
      | bl x2 =>
        cases rr2
        simp only [eqD]
        exact SeqAt.EqAt.none_bool _
      | int x2 =>
        obtain ⟨t2, rfl⟩ := rr2
        simp only [eqD]
        exact SeqAt.EqAt.none_int _ _
      | str x2 =>
        obtain ⟨t2, rfl⟩ := rr2
        simp only [eqD]
        exact SeqAt.EqAt.none_str _ _
      | lst _ _ _ _ _ => cases n2
      | tup _ _ _ _ => cases n2
    | bl x1 =>
      cases rr
      cases r2 with
      | non =>
        cases rr2
        simp only [eqD]
        exact SeqAt.EqAt.bool_none _
      | bl x2 =>
        cases rr2
        simp only [eqD]
        exact SeqAt.EqAt.bool_bool _ _
      | int x2 =>
        obtain ⟨t2, rfl⟩ := rr2
        simp only [eqD]
        exact SeqAt.EqAt.bool_int _ _ _
      | str x2 =>
        obtain ⟨t2, rfl⟩ := rr2
        simp only [eqD]
        exact SeqAt.EqAt.bool_str _ _ _
      | lst _ _ _ _ _ => cases n2
      | tup _ _ _ _ => cases n2
    | int x1 =>
      obtain ⟨t1, rfl⟩ := rr
      cases r2 with
      | non =>
        cases rr2
        simp only [eqD]
        exact SeqAt.EqAt.int_none _ _
      | bl x2 =>
        cases rr2
        simp only [eqD]
        exact SeqAt.EqAt.int_bool _ _ _
      | int x2 =>
        obtain ⟨t2, rfl⟩ := rr2
        simp only [eqD]
        exact SeqAt.EqAt.int_int _ _ _ _
      | str x2 =>
        obtain ⟨t2, rfl⟩ := rr2
        simp only [eqD]
        exact SeqAt.EqAt.int_str _ _ _ _
      | lst _ _ _ _ _ => cases n2
      | tup _ _ _ _ => cases n2
    | str x1 =>
      obtain ⟨t1, rfl⟩ := rr
      cases r2 with
      | non =>
        cases rr2
        simp only [eqD]
        exact SeqAt.EqAt.str_none _ _
      | bl x2 =>
        cases rr2
        simp only [eqD]
        exact SeqAt.EqAt.str_bool _ _ _
      | int x2 =>
        obtain ⟨t2, rfl⟩ := rr2
        simp only [eqD]
        exact SeqAt.EqAt.str_int _ _ _ _
      | str x2 =>
        obtain ⟨t2, rfl⟩ := rr2
        simp only [eqD]
        exact SeqAt.EqAt.str_str _ _ _ _
      | lst _ _ _ _ _ => cases n2
      | tup _ _ _ _ => cases n2
    | lst _ _ _ _ _ => cases n1
    | tup _ _ _ _ => cases n1
  induction n with
  | zero =>
    intro A v u d e rv ru r r2 rr rr2 hu
    exact sc r r2 (by cases r <;> rfl) (by cases r2 <;> rfl) rr rr2
  | succ n ih =>
    intro A v u d e rv ru r r2 rr rr2 hu
    have hu' : A.units < cLine := by (first | assumption | decide | omega)
    cases h1 : (isLst d || isTup d) with
    | false =>
      cases h2 : (isLst e || isTup e) with
      | false => exact sc r r2 h1 h2 rr rr2
      | true =>
        cases r2 with
        | @lst _ b ys es q2 f2 b2 l2 el2 =>
          obtain rfl : ru = Value.ref b := rr2
          obtain ⟨its2, rv2, pl2, _⟩ := I.list (SqL.of q2)
          cases r with
          | non => cases rr; simp only [eqD]; exact SeqAt.EqAt.none_list pl2.isList hu'
          | bl x1 => cases rr; simp only [eqD]; exact SeqAt.EqAt.bool_list _ pl2.isList hu'
          | int x1 => obtain ⟨t, rfl⟩ := rr; simp only [eqD]; exact SeqAt.EqAt.int_list _ _ pl2.isList hu'
          | str x1 => obtain ⟨t, rfl⟩ := rr; simp only [eqD]; exact SeqAt.EqAt.str_list _ _ pl2.isList hu'
          | lst _ _ _ _ _ => cases h1
          | tup _ _ _ _ => cases h1
        | @tup _ b ys es q2 b2 l2 el2 =>
          obtain rfl : ru = Value.ref b := rr2
          obtain ⟨its2, rv2, pl2, _⟩ := I.tuple (SqT.of q2)
          have pl2 : s.heap.IsTuple b its2.toArray := pl2
          cases r with
          | non => cases rr; simp only [eqD]; exact SeqAt.EqAt.none_tuple pl2 hu'
          | bl x1 => cases rr; simp only [eqD]; exact SeqAt.EqAt.bool_tuple _ pl2 hu'
          | int x1 => obtain ⟨t, rfl⟩ := rr; simp only [eqD]; exact SeqAt.EqAt.int_tuple _ _ pl2 hu'
          | str x1 => obtain ⟨t, rfl⟩ := rr; simp only [eqD]; exact SeqAt.EqAt.str_tuple _ _ pl2 hu'
          | lst _ _ _ _ _ => cases h1
          | tup _ _ _ _ => cases h1
        | _ => cases h2
    | true =>
      cases r with
      | @lst _ a xs ds q1 f1 b1 l1 el1 =>
        obtain rfl : rv = Value.ref a := rr
        obtain ⟨its, rv1, pl, _⟩ := I.list (SqL.of q1)
        have k1 := rv1.length
        cases r2 with
        | @lst _ b ys es q2 f2 b2 l2 el2 =>
          obtain rfl : ru = Value.ref b := rr2
          obtain ⟨its2, rv2, pl2, _⟩ := I.list (SqL.of q2)
          have k2 := rv2.length
          by_cases hab : a = b
          · subst hab
            have e := (Rp.lst (n := n) q1 f1 b1 l1 el1).inj (Rp.lst (n := n) q2 f2 b2 l2 el2)
            rw [e, eqD_refl]
            exact SeqAt.EqAt.same _
          · refine SeqAt.EqAt.of_refs hab ?_
            simp only [eqD]
            by_cases hl : ds.length = es.length
            · rw [eqDs_all hl]
              have q := SeqAt.RcAt.lists (A := A) (e := fun i => eqD (ds.getD i .non) (es.getD i .non)) pl.isList pl2.isList (by simp; omega) hu' (at_item rv1 rv2 l1 l2 el1 el2 fun r r2 rr rr2 => ih r r2 rr rr2 (by rw [in1_units]; omega))
              rw [show its.toArray.size = ds.length by simp; omega] at q
              exact q
            · rw [eqDs_len hl]
              exact SeqAt.RcAt.lists_lengths pl.isList pl2.isList (by simp; omega) hu'
        | @tup _ b ys es q2 b2 l2 el2 =>
          obtain rfl : ru = Value.ref b := rr2
          obtain ⟨its2, rv2, pl2, _⟩ := I.tuple (SqT.of q2)
          simp only [eqD]
          exact SeqAt.EqAt.list_tuple pl.isList (show s.heap.IsTuple b its2.toArray from pl2) hu'
        | non => cases rr2; simp only [eqD]; exact SeqAt.EqAt.list_none pl.isList hu'
        | bl x1 => cases rr2; simp only [eqD]; exact SeqAt.EqAt.list_bool _ pl.isList hu'
        | int x1 => obtain ⟨t, rfl⟩ := rr2; simp only [eqD]; exact SeqAt.EqAt.list_int _ _ pl.isList hu'
        | str x1 => obtain ⟨t, rfl⟩ := rr2; simp only [eqD]; exact SeqAt.EqAt.list_str _ _ pl.isList hu'
      | @tup _ a xs ds q1 b1 l1 el1 =>
        obtain rfl : rv = Value.ref a := rr
        obtain ⟨its, rv1, pl, _⟩ := I.tuple (SqT.of q1)
        have pl : s.heap.IsTuple a its.toArray := pl
        have k1 := rv1.length
        cases r2 with
        | @tup _ b ys es q2 b2 l2 el2 =>
          obtain rfl : ru = Value.ref b := rr2
          obtain ⟨its2, rv2, pl2, _⟩ := I.tuple (SqT.of q2)
          have pl2 : s.heap.IsTuple b its2.toArray := pl2
          have k2 := rv2.length
          by_cases hab : a = b
          · subst hab
            have e := (Rp.tup (n := n) (F := F) q1 b1 l1 el1).inj (Rp.tup (n := n) (F := G) q2 b2 l2 el2)
            rw [e, eqD_refl]
            exact SeqAt.EqAt.same _
          · refine SeqAt.EqAt.of_refs hab ?_
            simp only [eqD]
            have q := SeqAt.RcAt.tuples (A := A) (e := fun i => eqD (ds.getD i .non) (es.getD i .non)) pl pl2 hu' (at_item rv1 rv2 l1 l2 el1 el2 fun r r2 rr rr2 => ih r r2 rr rr2 (by rw [in1_units]; omega))
            have e1 : its.toArray.size = ds.length := by simp; omega
            have e2 : its2.toArray.size = es.length := by simp; omega
            rw [e1, e2] at q
            by_cases hl : ds.length = es.length
            · rw [eqDs_all hl]
              rw [← hl, Nat.min_self, beq_self_eq_true, Bool.and_true] at q
              exact q
            · rw [eqDs_len hl]
              rw [beq_eq_false_iff_ne.mpr hl, Bool.and_false] at q
              exact q
        | @lst _ b ys es q2 f2 b2 l2 el2 =>
          obtain rfl : ru = Value.ref b := rr2
          obtain ⟨its2, rv2, pl2, _⟩ := I.list (SqL.of q2)
          simp only [eqD]
          exact SeqAt.EqAt.tuple_list pl pl2.isList hu'
        | non => cases rr2; simp only [eqD]; exact SeqAt.EqAt.tuple_none pl hu'
        | bl x1 => cases rr2; simp only [eqD]; exact SeqAt.EqAt.tuple_bool _ pl hu'
        | int x1 => obtain ⟨t, rfl⟩ := rr2; simp only [eqD]; exact SeqAt.EqAt.tuple_int _ _ pl hu'
        | str x1 => obtain ⟨t, rfl⟩ := rr2; simp only [eqD]; exact SeqAt.EqAt.tuple_str _ _ pl hu'
      | _ => cases h1
noncomputable def rEqD (neg : Bool) : R2 := fun x y H Q => ∃ (n : Nat) (d e : Dt), n ≤ 30 ∧ Rp H FT n x d ∧ Rp H FT n y e ∧ (isLst d && isLst e || isTup d && isTup e) = true ∧ Q (.bl (if neg then !eqD d e else eqD d e)) H
theorem op_neD (hu : X.A.units + 64 < cLine) : OpR X (compareOp .NotEq) (rEqD true) := by
  intro pins s σ H x y v u Q I rx ry h
  obtain ⟨n, d, e, hn, r, r2, hs, q⟩ := h
  cases r with
  | @lst m a xs ds q1 f1 b1 l1 el1 =>
    cases r2 with
    | @lst _ b ys es q2 f2 b2 l2 el2 =>
      obtain rfl : v = Value.ref a := rx
      obtain rfl : u = Value.ref b := ry
      obtain ⟨its, rv1, pl, _⟩ := I.list (SqL.of q1)
      obtain ⟨its2, rv2, pl2, _⟩ := I.list (SqL.of q2)
      have k1 := rv1.length
      have k2 := rv2.length
      have q : Q (.bl (!eqDs ds es)) H := by
        have q := q
        unfold eqD at q
        exact q
      by_cases hl : ds.length = es.length
      · refine SeqAt.RcNeAt.lists (e := fun i => eqD (ds.getD i .non) (es.getD i .non)) pl.isList pl2.isList (by simp; omega) (by (first | assumption | decide | omega)) (at_item rv1 rv2 l1 l2 el1 el2 fun r r2 rr rr2 => eqAt_D I r r2 rr rr2 (by rw [in1_units]; omega)) _ _ _ _ ⟨.bl _, H, I, rfl, ?_⟩
        rw [show its.toArray.size = ds.length by simp; omega, ← eqDs_all hl]
        exact q
      · refine SeqAt.RcNeAt.lists_lengths pl.isList pl2.isList (by simp; omega) (by (first | assumption | decide | omega)) _ _ _ _ ⟨.bl _, H, I, rfl, ?_⟩
        rw [eqDs_len hl] at q
        exact q
    | _ => cases hs
  | @tup m a xs ds q1 b1 l1 el1 =>
    cases r2 with
    | @tup _ b ys es q2 b2 l2 el2 =>
      obtain rfl : v = Value.ref a := rx
      obtain rfl : u = Value.ref b := ry
      obtain ⟨its, rv1, pl, _⟩ := I.tuple (SqT.of q1)
      obtain ⟨its2, rv2, pl2, _⟩ := I.tuple (SqT.of q2)
      have k1 := rv1.length
      have k2 := rv2.length
      have q : Q (.bl (!eqDs ds es)) H := by
        have q := q
        unfold eqD at q
        exact q
      refine SeqAt.RcNeAt.tuples (e := fun i => eqD (ds.getD i .non) (es.getD i .non)) (show s.heap.IsTuple a its.toArray from pl) (show s.heap.IsTuple b its2.toArray from pl2) (by (first | assumption | decide | omega)) (at_item rv1 rv2 l1 l2 el1 el2 fun r r2 rr rr2 => eqAt_D I r r2 rr rr2 (by rw [in1_units]; omega)) _ _ _ _ ⟨.bl _, H, I, rfl, ?_⟩
      have e1 : its.toArray.size = ds.length := by simp; omega
      have e2 : its2.toArray.size = es.length := by simp; omega
      rw [e1, e2]
      by_cases hl : ds.length = es.length
      · rw [← hl, Nat.min_self, beq_self_eq_true, Bool.and_true, ← eqDs_all hl]
        exact q
      · rw [beq_eq_false_iff_ne.mpr hl, Bool.and_false, ← eqDs_len hl]
        exact q
    | _ => cases hs
  | _ => cases hs
end
end L2
namespace L2
open PySem PySem.Spec PyProof.Rows
noncomputable abbrev dN (n : Nat) : Dt := .int (n : Nat)
noncomputable def dL (ns : List Nat) : Dt := .lst (ns.map dN)
noncomputable def dT (ns : List Nat) : Dt := .tup (ns.map dN)
noncomputable def dS (zs : List Str) : Dt := .lst (zs.map .str)
section
variable {H : Hp} {F : Addr → Prop} {n : Nat} {v : V}
theorem vals_map {α : Type} {f : α → V} {g : α → Dt} (uniq : ∀ (a : α) (v : V), Rp H F n v (g a) → v = f a) {vs : List V} {as : List α} (l : vs.length = (as.map g).length)
    (e : ∀ (i : Nat) (v : V) (d : Dt), vs[i]? = some v → (as.map g)[i]? = some d → Rp H F n v d) : vs = as.map f := by
  refine List.ext_getElem (by simpa using l) fun i h1 h2 => ?_
  have h3 : i < as.length := by simpa using h2
  rw [List.getElem_map]
  exact uniq _ _ (e i vs[i] (g as[i]) (by simp [h1]) (by simp [h3]))
theorem uniq_s (a : Str) (v : V) (r : Rp H F n v (.str a)) : v = .str a := by cases r; rfl
theorem dS_of {zs : List Str} (r : Rp H F n v (dS zs)) : ∃ a, v = .ref a ∧ H a = some (.lst (zs.map V.str)) ∧ F a ∧ zs.length ≤ 100000 := by
  unfold dS at r
  cases r with
  | @lst m a vs _ h f b l e =>
    have q := vals_map (f := V.str) (fun a v r => uniq_s a v r) l e
    subst q
    exact ⟨a, rfl, h, f, by simpa using b⟩
theorem rp_map {α : Type} {f : α → V} {g : α → Dt} {as : List α} (k : ∀ a ∈ as, Rp H F n (f a) (g a)) : ∀ (i : Nat) (v : V) (d : Dt), (as.map f)[i]? = some v → (as.map g)[i]? = some d → Rp H F n v d := by
  intro i v d h1 h2
  rw [List.getElem?_map] at h1 h2
  cases e : as[i]? with
  | none => rw [e] at h1; cases h1
  | some a =>
    rw [e] at h1 h2
    cases h1
    cases h2
    exact k a (List.mem_of_getElem? e)
theorem rp_L {a : Addr} {ns : List Nat} (h : H a = some (.lst (ns.map nV))) (f : F a) (b : ns.length ≤ 100000) : Rp H F (n + 1) (.ref a) (dL ns) := .lst h f (by simpa using b) (by simp) (rp_map fun k _ => .int _)
theorem getD_map {α β : Type} (f : α → β) (as : List α) (i : Nat) (x : β) (y : α) (h : i < as.length) : (as.map f).getD i x = f (as.getD i y) := by simp [List.getD_eq_getElem?_getD, h]
theorem getD_str {zs : List Str} {i : Nat} (h : i < (zs.map V.str).length) : (zs.map V.str).getD i .non = .str (zs.getD i Str.empty) := getD_map V.str zs i .non Str.empty (by simpa using h)
theorem getD_mem {α : Type} {as : List α} {i : Nat} {y : α} (h : i < as.length) : as.getD i y ∈ as := by
  rw [List.getD_eq_getElem?_getD, List.getElem?_eq_getElem h]
  exact List.getElem_mem h
end
end L2
namespace L2
open PySem PySem.Spec PyProof.Rows
end L2
namespace L2
open PySem PySem.Spec PyProof.Rows
end L2
namespace L2
open PySem PySem.Spec PyProof.Rows
section
variable {H : Hp} {a : Addr} {kvs : List (Key × V)}
end
theorem cut_to {xs : List V} {k : Int} (h : 0 ≤ k) : cutV xs none (some k) = xs.take k.toNat := by
  unfold cutV
  have e2 : HT.sIx xs.length 0 none = 0 := rfl
  rw [e2, List.drop_zero]
  have e1 : HT.sIx xs.length xs.length (some k) = min k.toNat xs.length := by
    unfold HT.sIx
    simp only
    split <;> omega
  rw [e1, Nat.sub_zero]
  by_cases q : k.toNat ≤ xs.length
  · rw [Nat.min_eq_left q]
  · rw [Nat.min_eq_right (by (first | assumption | decide | omega)), List.take_of_length_le (Nat.le_refl _), List.take_of_length_le (by (first | assumption | decide | omega))]
section
variable {K : PySem.W.Frag} {wi : TI} {own : List Str} {fr : List (Str × Nat)} {g : TG} {tc : TT} {te tl : TE} {tb : TS} {D : Ends} {σ : St} {H : Hp} {Q : VK} {R : It → Hp → Prop} {ta : TA}
theorem rd_comp (h : wi σ H fun J H1 => ∀ D, H1 D = none → CompW J (blkSt own fr σ) g tc te Q H1 D) : tComp wi own fr g tc te σ H Q := h
theorem rd_for (h : wi σ H fun J H1 => ∃ W : Nat → Nat → St → Hp → Prop, (∃ m, W 0 m σ H1) ∧ ∀ i m σ H, W i m σ H →
  (J.stop i H ∧ D.nx σ H) ∨ (J.go i H ∧ ∃ N : St → Hp → Prop, (∀ σ' H', N σ' H' → ∃ m', m' < m ∧ W (i + 1) m' σ' H') ∧ ∀ x H', J.yld i H x H' → g x σ H' fun σ2 H2 => tb { D with nx := N, ct := N, bk := D.nx } σ2 H2)) : tFor wi g tb D σ H := h
theorem rd_iL (h : tl σ H fun x H1 => ∃ a, x = .ref a ∧ (∃ xs, SqL K H1 a xs) ∧ R (Itl K a) H1) : iList K tl σ H R := h
theorem rd_iT (h : tl σ H fun x H1 => ∃ a, x = .ref a ∧ (∃ xs, SqT K H1 a xs) ∧ R (Itt K a) H1) : iTup K tl σ H R := h
theorem rd_iQ (h : tl σ H fun x H1 => ∃ tp a, x = .ref a ∧ (∃ xs, SqS tp K H1 a xs) ∧ R (Isq tp K a) H1) : iSq K tl σ H R := h
theorem rd_iE (h : ta σ H fun vs H1 => ∃ a, vs = [.ref a] ∧ (∃ xs, SqL K H1 a xs) ∧ R (Ite K a) H1) : iEnum K ta σ H R := h
theorem rd_iF (h : ta σ H fun vs H1 => ∃ tp a, vs = [.ref a] ∧ (∃ xs, SqS tp K H1 a xs) ∧ R (IteS tp K a) H1) : iEnumS K ta σ H R := h
theorem rd_i1 (h : ta σ H fun vs H1 => ∃ j : Int, vs = [.int j] ∧ -(2 ^ 62) ≤ j ∧ j < 2 ^ 62 ∧ R (Itr 0 j.toNat) H1) : iRng1 ta σ H R := h
theorem rd_i2 (h : ta σ H fun vs H1 => ∃ i j : Int, vs = [.int i, .int j] ∧ (-(2 ^ 62) ≤ i ∧ i < 2 ^ 62 ∧ -(2 ^ 62) ≤ j ∧ j < 2 ^ 62) ∧ R (Itr i (j - i).toNat) H1) : iRng2 ta σ H R := h
end
theorem for_srcW {J : It} {g : TG} {H0 H : Hp} {n : Nat} {set : Nat → St → St} {tb : TS} {D : Ends} {σ : St} (S : FSrc J g H0 n set) (Pv : Nat → St → Hp → Prop) (h0 : Pv 0 σ H) (hk : ∀ i σ H', Pv i σ H' → Same H0 H')
    (hs : ∀ i σ H' H3, i < n → Pv i σ H' → Same H' H3 → tb { D with nx := Pv (i + 1), ct := Pv (i + 1), bk := D.nx } (set i σ) H3) (hd : ∀ σ H', Pv n σ H' → D.nx σ H') :
    ∃ W : Nat → Nat → St → Hp → Prop, (∃ m, W 0 m σ H) ∧ ∀ i m σ H, W i m σ H →
      (J.stop i H ∧ D.nx σ H) ∨ (J.go i H ∧ ∃ N : St → Hp → Prop, (∀ σ' H', N σ' H' → ∃ m', m' < m ∧ W (i + 1) m' σ' H') ∧ ∀ x H', J.yld i H x H' → g x σ H' fun σ2 H2 => tb { D with nx := N, ct := N, bk := D.nx } σ2 H2) := by
  refine ⟨fun i m σ H' => m = n - i ∧ i ≤ n ∧ Pv i σ H', ⟨n, by simp, Nat.zero_le _, h0⟩, ?_⟩
  rintro i m σ H1 ⟨rfl, hi, p⟩
  by_cases hlt : i < n
  · exact .inr ⟨S.go i H1 hlt (hk _ _ _ p), Pv (i + 1), fun σ' H' p' => ⟨n - (i + 1), by (first | assumption | decide | omega), rfl, hlt, p'⟩, fun x H' y => S.yld i σ H1 x H' _ hlt (hk _ _ _ p) y fun H3 s3 => hs i σ H1 H3 hlt p s3⟩
  · have e : i = n := by (first | assumption | decide | omega)
    subst e
    exact .inl ⟨S.stop H1 (hk _ _ _ p), hd σ H1 p⟩
theorem fs_range0 {H : Hp} {i1 n : Nat} : FSrc (Itr 0 n) (gName i1) H n (fun i σ => σ.set i1 (some (.int (i : Nat)))) := by
  have := fs_range (H := H) (i1 := i1) (lo := 0) (n := n)
  simpa using this
theorem src_range0 {n : Nat} {σ0 : St} {H : Hp} (h0 : σ0[0]? = some none) : SrcOk (Itr 0 n) (gName 0) σ0 H n (fun i => σ0.set 0 (some (.int (i : Nat)))) := by
  have := src_range (H := H) (lo := 0) (n := n) h0
  simpa using this
theorem rp_twoT {H : Hp} {F : Addr → Prop} {n : Nat} {a : Addr} {x y : V} {d e : Dt} (h : H a = some (.tup [x, y])) (r1 : Rp H F n x d) (r2 : Rp H F n y e) : Rp H F (n + 1) (.ref a) (.tup [d, e]) := by
  refine .tup h (by simp) rfl fun i v u h1 h2 => ?_
  match i with
  | 0 => cases h1; cases h2; exact r1
  | 1 => cases h1; cases h2; exact r2
  | i + 2 => cases h1
theorem iteNF {A B : Prop} (h : B) : if (!true) = true then A else B := by simpa using h
theorem iteNT {A B : Prop} (h : A) : if (!false) = true then A else B := by simpa using h
end L2
namespace L2
open PySem PySem.Spec PyProof.Rows
end L2
namespace L2
open PySem PySem.Spec PyProof.Rows
end L2
namespace L2
open PySem PySem.Spec PyProof.Rows
end L2
namespace L2
theorem getD_el {α : Type} {as : List α} {i : Nat} {y : α} (h : i < as.length) : as.getD i y = as[i] := by
  rw [List.getD_eq_getElem?_getD, List.getElem?_eq_getElem h]
  rfl
end L2
namespace L2
open PySem PySem.Spec PyProof.Rows
theorem ofB_t {f : Nat → Bool} {w : Nat} (h : f w = true) : MM.ofB f (w + 1) = MM.ofB f w + 2 ^ w := by
  show MM.ofB f w + (f w).toNat * 2 ^ w = _
  rw [h, Bool.toNat_true, Nat.one_mul]
theorem ofB_f {f : Nat → Bool} {w : Nat} (h : f w = false) : MM.ofB f (w + 1) = MM.ofB f w := by
  show MM.ofB f w + (f w).toNat * 2 ^ w = _
  rw [h, Bool.toNat_false, Nat.zero_mul, Nat.add_zero]
end L2
namespace L2
open PySem PySem.Spec PyProof.Rows
theorem range_getD {n j y : Nat} (h : j < n) : (List.range n).getD j y = j := by
  rw [getD_el (by simpa using h), List.getElem_range]
theorem getD_rmap {α : Type} (f : Nat → α) {n j : Nat} {y : α} (h : j < n) : ((List.range n).map f).getD j y = f j := by
  rw [getD_map f (List.range n) j y 0 (by simpa using h), range_getD h]
noncomputable def CDivL (i j : Int) : Prop := 0 < j ∧ j < 2 ^ 200
theorem log_small {j : Int} (h0 : 0 < j) (h : j < 2 ^ 200) : j.natAbs.log2 < 9000 := by
  have h1 : j.natAbs < 2 ^ 200 := by (first | assumption | decide | omega)
  have := (Nat.log2_lt (show j.natAbs ≠ 0 by (first | assumption | decide | omega))).mpr h1
  first | assumption | decide | omega
theorem op_fdivL {X : Cx} : OpR X (binaryOp .FloorDiv) (rI CDivL fun i j => .int (i / j)) := opI fun i j _ _ _ _ _ hc q => by
  rw [← Int.fdiv_eq_ediv_of_nonneg i (by have := hc.1; omega)] at q
  exact floordiv_int (by have := hc.1; omega) q (.inl (PyProof.noPylong_of_log2 (log_small hc.1 hc.2)))
end L2
namespace L2
open PySem PySem.Spec PyProof.Rows
section
variable {prog : Program} {w : World} {A : Around} {E : Value → Shared → Prop} {s : Shared} {T : String} {r d : Addr} {n : Nat} {P : Nat → Value → Prop} {St : Nat → Heap → Prop}
end
section
variable {prog : Program} {w : World} {A : Around} {E : Value → Shared → Prop} {s : Shared}
end
section
variable {X : Cx} {K : PySem.W.Frag} {e o : Expr} {ta : TA} {to : TE} {p p2 pos pos2 apos cpos : Pos}
end
end L2
namespace L2
open PySem PySem.Spec PyProof.Rows
section
variable {X : Cx} {K : PySem.W.Frag} {e o : Expr} {es : List Expr} {ta to : TE} {t : TA} {f name : Str} {pos apos cpos : Pos} {T id : String} {r : V → List V → Hp → VK → Prop}
theorem k_fld (he : PE X e ta) (hb : attributeBase e f X.env (eval e X.env) = eval e X.env) (hK : X.K = K := by rfl) : PE X (.Attribute e f pos) (tFld K ta f) := by
  subst hK
  exact pe_fld he hb
theorem kx_bm0 (pa : PlainAttrs T) (slot : Slot T name id) (hty : typeOf (.builtin id) = pure (.type "method_descriptor")) (hm : MtR X id r) (ho : PE X o to) (hK : X.K = K := by rfl)
    (hbase : attributeBase o name X.env (eval o X.env) = eval o X.env := by rfl) (hline : (apos.endLine == cpos.line) = true := by rfl) : PE X (.Call (.Attribute o name apos) [] [] cpos) (tBM0 K T r to) := by
  subst hK
  exact pe_bm0 pa slot hty hm ho hbase hline
theorem kx_bm (pa : PlainAttrs T) (slot : Slot T name id) (hty : typeOf (.builtin id) = pure (.type "method_descriptor")) (hm : MtR X id r) (ho : PE X o to) (ha : PA X (e :: es) t) (hK : X.K = K := by rfl)
    (hbase : attributeBase o name X.env (eval o X.env) = eval o X.env := by rfl)
    (hfew : ((backTo cpos (starEach (e :: es) X.env)).all (fun x => !x.1) && (backToKw cpos (keywordEach [] X.env)).all (fun x => x.1.isSome)
      && decide ((e :: es).length + ([] : List Keyword).length + (if ([] : List Keyword).isEmpty then 0 else 1) < 30)) = true := by rfl)
    (hline : (apos.endLine == cpos.line) = true := by rfl) (hs : starEach (e :: es) X.env = (false, eval e X.env) :: starEach es X.env := by rfl) (hplain : (backTo cpos (starEach es X.env)).any (·.1) = false := by rfl) :
    PE X (.Call (.Attribute o name apos) (e :: es) [] cpos) (tBM K T r to t) := by
  subst hK
  exact pe_bm pa slot hty hm ho ha hbase hfew hline hs hplain
end
end L2
namespace L2
open PySem PySem.Spec PyProof.Rows
section
variable {prog : Program} {w : World} {A : Around} {E : Value → Shared → Prop} {s : Shared}
end
section
variable {X : Cx} {K : PySem.W.Frag} {e o : Expr} {ta : TA} {to : TE} {p p2 pos pos2 apos cpos : Pos}
end
section
variable {X : Cx} {k : Nat} {e o : Expr} {es : List Expr} {t : TA} {to : TE} {pos : Pos} {S : Addr → Sp → Prop}
end
theorem arg1 {α : Type} {P : List α → Prop} (h : ∀ a0, P [a0]) : ∀ us : List α, us.length = 1 → P us := fun us hl => match us, hl with | [a0], _ => h a0
theorem arg2 {α : Type} {P : List α → Prop} (h : ∀ a0 a1, P [a0, a1]) : ∀ us : List α, us.length = 2 → P us := fun us hl => match us, hl with | [a0, a1], _ => h a0 a1
theorem arg3 {α : Type} {P : List α → Prop} (h : ∀ a0 a1 a2, P [a0, a1, a2]) : ∀ us : List α, us.length = 3 → P us := fun us hl => match us, hl with | [a0, a1, a2], _ => h a0 a1 a2
theorem arg4 {α : Type} {P : List α → Prop} (h : ∀ a0 a1 a2 a3, P [a0, a1, a2, a3]) : ∀ us : List α, us.length = 4 → P us := fun us hl => match us, hl with | [a0, a1, a2, a3], _ => h a0 a1 a2 a3
end L2
namespace L2
open PySem PySem.Spec PyProof.Rows
section
variable {X : Cx} {pins : List (Addr × Obj)} {σ : St} {H : Hp} {s : Shared} {scope : Scope} {cx : Str} {own : List Str} {fr : List (Str × Nat)} {fp : List Addr}
end
section
variable {X : Cx}
end
section
variable {X : Cx} {scope : Scope} {cx : Str} {own : List Str} {fr : List (Str × Nat)}
end
end L2
namespace L2
open PySem PySem.Spec PyProof.Rows
section
variable {X : Cx} {K : PySem.W.Frag} {scope : Scope} {fr : List (Str × Nat)}
theorem pe_comp1N {elt iter : Expr} {x : Str} {px : Pos} {ifs : List Expr} {pos : Pos} {wi : TI} {tc : TT} {te : TE} (hi : PI X (.Name x px) iter wi)
    (ht : ∀ C ex s H, PTs (blkCx X scope [x] fr C ex s H) ifs tc) (he : ∀ C ex s H, PE (blkCx X scope [x] fr C ex s H) elt te)
    (hb : blkOk X.env.scope X.N scope [x] fr = true := by with_unfolding_all rfl) (hc : X.calm = true := by rfl)
    (hs : ∀ x, foldedSetIterable iter X.env x = pure x := by intro _; rfl) : PE X (.ListComp elt [⟨.Name x px, iter, ifs, 0⟩] scope pos) (tComp wi [x] fr (gName 0) tc te) :=
  pe_comp hc (.of hb) hi (fun C ex s H => pg_own hb rfl C ex s H) ht he hs
end
end L2
namespace L2
open PySem PySem.Spec PyProof.Rows
section
variable {X : Cx} {e o : Expr} {es : List Expr} {t : TA} {to : TE} {pos : Pos} {S : Addr → Sp → Prop}
end
end L2
namespace L2
open PySem PySem.Spec PyProof.Rows
noncomputable def rMax2 : List V → Hp → VK → Prop := fun xs H Q => ∃ i j, xs = [.int i, .int j] ∧ Q (.int (if j > i then j else i)) H
noncomputable def rMin2 : List V → Hp → VK → Prop := fun xs H Q => ∃ i j, xs = [.int i, .int j] ∧ Q (.int (if j < i then j else i)) H
section
variable {X : Cx} {K : PySem.W.Frag}
theorem k_max2 (hc : X.calm = true := by rfl) : CallR X (.builtin "max") rMax2 := call_max2 hc
theorem k_min2 (hc : X.calm = true := by rfl) : CallR X (.builtin "min") rMin2 := call_min2 hc
end
theorem rd_max2 {H : Hp} {Q : VK} {i j : Int} (h : Q (.int (if j > i then j else i)) H) : rMax2 [.int i, .int j] H Q := ⟨i, j, rfl, h⟩
theorem rd_min2 {H : Hp} {Q : VK} {i j : Int} (h : Q (.int (if j < i then j else i)) H) : rMin2 [.int i, .int j] H Q := ⟨i, j, rfl, h⟩
end L2
namespace HT
open PySem PySem.Spec PyProof.Rows
variable {prog : Program} {w : World} {A : Around} {E : Value → Shared → Prop} {s : Shared}
end HT
namespace L2
open PySem PySem.Spec PyProof.Rows
theorem eqVs_strs (as bs : List Str) : eqVs (as.map V.str) (bs.map V.str) = decide (as = bs) := by
  rw [Bool.eq_iff_iff, decide_eq_true_iff]
  unfold eqVs
  simp only [Bool.and_eq_true, beq_iff_eq, List.length_map, List.all_eq_true, List.mem_range]
  constructor
  · rintro ⟨h1, h2⟩
    refine List.ext_getElem h1 fun i ha hb => ?_
    have h3 := h2 i ha
    rw [getD_str (by simpa using ha), getD_str (by simpa using hb)] at h3
    have h4 : (as.getD i Str.empty == bs.getD i Str.empty) = true := h3
    rw [beq_iff_eq, getD_el ha, getD_el hb] at h4
    exact h4
  · rintro rfl
    refine ⟨rfl, fun i hi => ?_⟩
    rw [getD_str (by simpa using hi)]
    show (as.getD i Str.empty == as.getD i Str.empty) = true
    rw [beq_iff_eq]
end L2
namespace L2
open PySem PySem.Spec PyProof.Rows
end L2
namespace L2
open PySem PySem.Spec PyProof.Rows
theorem HOk.on {P : Program} {w : World} {H : Hp} {h h' : Heap} (x : HOk P w H h) (k : ∀ b u, H b ≠ none → h.get? b = some u → h'.get? b = some u) : HOk P w H h' := fun a o e =>
  (x a o e).stay (fun b u hb q => k b u (by
    rcases hb with rfl | hb
    · rw [e]; exact fun z => by cases z
    · rw [hb]; exact fun z => by cases z) q) (fun _ q => q) fun _ _ q => q
theorem obj_some {P : Program} {w : World} {H : Hp} {h : Heap} {a : Addr} {o : HO} (x : ObjOk P w H h a o) : ∃ u, h.get? a = some u := by
  cases o with
  | lst xs => obtain ⟨_, _, _, _, e⟩ := x; exact ⟨_, e⟩
  | tup xs => obtain ⟨_, _, _, o, e, _⟩ := x; exact ⟨_, e⟩
  | dK kvs => obtain ⟨_, _, _, _, o, _, _, e, _⟩ := x; exact ⟨_, e⟩
  | dT kvs => obtain ⟨_, _, _, _, o, _, _, e, _⟩ := x; exact ⟨_, e⟩
  | set S n => obtain ⟨o, _, _, _, e, _⟩ := x; exact ⟨_, e⟩
  | ins C dx fs => obtain ⟨_, _, _, e, _⟩ := x; exact ⟨_, e⟩
  | own y => exact x
  | xd fs => obtain ⟨_, ⟨_, _, _, e, _⟩, _⟩ := x; exact ⟨_, e⟩
  | rng lo hi => obtain ⟨_, _, _, e⟩ := x; exact ⟨_, e⟩
  | frz ob u => obtain ⟨e, _⟩ := x; exact ⟨_, e⟩
  | tbl ps => exact ⟨_, (show h.get? a = some _ from x)⟩
  | met f y => exact ⟨_, (show h.get? a = some _ from x)⟩
  | ext φ => obtain ⟨_, e, _⟩ := x; exact e
noncomputable def Flown (outer : List Env) (s : Shared) (H' : Hp) (a C t : Addr) (s' : Shared) : Prop :=
  ∃ B : Heap, B.FlyingW outer a (.ref C) (.ref t) s'.heap ∧ ∀ b, (H' b ≠ none ∨ ∃ o, s.heap.get? b = some o) → b ∉ frs outer → ∀ o, s'.heap.get? b = some o → B.get? b = some o
noncomputable def CXE (P : Program) (w : World) : CXT := fun outer H s E e s' =>
  ∃ a C t H', e = .ref a ∧ s'.os = s.os ∧ AllBare s'.gens ∧ Un (frs outer) [] H H' s.heap s'.heap ∧ HOk P w H' s'.heap ∧ Flown outer s H' a C t s' ∧ E (.ref C) none H'
theorem frs_cons {env : Env} {L : Addr} {outer : List Env} (h : env.frame = some L) : frs (env :: outer) = L :: frs outer := by
  unfold frs
  rw [List.filterMap_cons, h]
theorem funs_mem {h base : Heap} : ∀ {l : List Env} {b : Addr}, h.FunFrames base l → b ∈ frs l → base.get? b = none ∧ ∃ o, h.get? b = some o ∧ ∀ vs, o.data ≠ .fields vs
  | [], b, _, hb => by cases hb
  | env :: l, b, ⟨_, ⟨L, o, e1, e2, e3, e4⟩, r⟩, hb => by
    rw [frs_cons e1] at hb
    rcases List.mem_cons.mp hb with rfl | hb
    · exact ⟨e2, o, e3, e4⟩
    · exact funs_mem r hb
theorem passes_cx {P : Program} {w : World} {K : PySem.W.Frag} {mg : Str → Option Value} {base : Heap} {N : List Str} {qual : Str} {scope : Scope} {f : Addr} {cd : Value} {A : Around} {outer : List Env} {s₀ : Shared} {H₀ : Hp} {E E' : XK}
    (hE : ∀ c o H, E c o H → E' c o H) : Passes (CXE P w) (cxOf (CXE P w) P w K mg base N qual scope f cd A outer s₀ H₀ E') E := by
  intro pins σ H s e s' I h
  obtain ⟨a, C, t, H', rfl, os, bare, un, hok, ⟨B, fl, cov⟩, q⟩ := h
  have hfr : (envOfC qual scope s₀.heap.objs.size f cd).frame = some s₀.heap.objs.size := rfl
  have hfs : frs (envOfC qual scope s₀.heap.objs.size f cd :: outer) = s₀.heap.objs.size :: frs outer := frs_cons hfr
  refine wpAny_leaves_onW I.ok.frames hfr fl fun h' fl' ups => ?_
  have ib : Un (frs outer) [] H₀ H s₀.heap s.heap := I.base
  have nl : ∀ b o, s₀.heap.get? b = some o → b ≠ s₀.heap.objs.size := fun b o e => Nat.ne_of_lt (Heap.lt_size e)
  have toB : ∀ b, (H' b ≠ none ∨ ∃ o, s.heap.get? b = some o) → b ∉ frs (envOfC qual scope s₀.heap.objs.size f cd :: outer) → ∀ o, s'.heap.get? b = some o → h'.get? b = some o := fun b hb hn o e => fl'.1 b o (cov b hb hn o e)
  have untr : ∀ b, b ∈ frs (envOfC qual scope s₀.heap.objs.size f cd :: outer) → H' b = none := fun b hb => by
    obtain ⟨_, o, e, _⟩ := funs_mem I.stack hb
    exact un.free b o e (I.stkFree b hb) (by simp)
  have hok' : HOk P w H' h' := hok.on fun b u hb e => by
    refine toB b (.inl hb) (fun z => hb (untr b z)) u e
  refine ⟨a, C, t, H', rfl, os.trans I.os, bare, ?_, hok', ⟨B, fl', fun b hb hn o e => ?_⟩, hE _ _ _ q⟩
  · have notin : ∀ b o, s₀.heap.get? b = some o → b ∉ frs outer → b ∉ frs (envOfC qual scope s₀.heap.objs.size f cd :: outer) := fun b o e hn z => by
      rw [hfs] at z
      rcases List.mem_cons.mp z with z | z
      · exact nl b o e z
      · exact hn z
    have isin : ∀ b, b ∈ frs outer → b ∈ frs (envOfC qual scope s₀.heap.objs.size f cd :: outer) := fun b hb => by rw [hfs]; exact List.mem_cons_of_mem _ hb
    refine ⟨fun b o e hH hn _ => ?_, fun b o e hH hb _ => ?_, fun b o e hH _ => ?_, fun b o e _ => ?_, fun b xs e => un.tups b xs (ib.tups b xs e), fun b o u e => un.frzs b o u (ib.frzs b o u e), fun b ps e => ?_⟩
    · have e1 := ib.keep b o e hH hn (by simp)
      exact toB b (.inr ⟨o, e1⟩) (notin b o e hn) o (un.keep b o e1 (ib.free b o e hH (by simp)) (notin b o e hn) (by simp))
    · obtain ⟨sl, e1⟩ := ib.slot b o e hH hb (by simp)
      obtain ⟨sl2, e2⟩ := un.slot b _ e1 (ib.free b o e hH (by simp)) (isin b hb) (by simp)
      obtain ⟨_, o', e', nf⟩ := funs_mem fl.2.2.1 (isin b hb)
      rw [e2] at e'
      cases e'
      obtain ⟨sl3, e3⟩ := ups b _ e2 nf
      exact ⟨sl3, e3⟩
    · obtain ⟨o1, e1⟩ := ib.there b o e (by simp)
      exact un.free b o1 e1 (ib.free b o e hH (by simp)) (by simp)
    · obtain ⟨o1, e1⟩ := ib.there b o e (by simp)
      obtain ⟨o2, e2⟩ := un.there b o1 e1 (by simp)
      by_cases hb : b ∈ frs outer
      · obtain ⟨_, o', e', nf⟩ := funs_mem fl.2.2.1 (isin b hb)
        obtain ⟨sl3, e3⟩ := ups b _ e' nf
        exact ⟨_, e3⟩
      · exact ⟨o2, toB b (.inr ⟨o1, e1⟩) (notin b o e hb) o2 e2⟩
    · obtain ⟨m1, e1⟩ := ib.tbls b ps e
      obtain ⟨m2, e2⟩ := un.tbls b _ e1
      exact ⟨m1 ++ m2, by rw [e2, Array.append_assoc]⟩
  · have hn2 : b ∉ frs (envOfC qual scope s₀.heap.objs.size f cd :: outer) := fun z => by
      have z0 := z
      rw [hfs] at z
      rcases List.mem_cons.mp z with z | z
      · rcases hb with hb | ⟨o1, e1⟩
        · exact hb (untr b z0)
        · exact nl b o1 e1 z
      · exact hn z
    obtain ⟨o2, e2, hb2⟩ : ∃ o2, s'.heap.get? b = some o2 ∧ (H' b ≠ none ∨ ∃ o, s.heap.get? b = some o) := by
      rcases hb with hb | ⟨o1, e1⟩
      · cases hx : H' b with
        | none => exact absurd hx hb
        | some u =>
          obtain ⟨o2, e2⟩ := obj_some (hok b u hx)
          exact ⟨o2, e2, .inl (fun z => by cases z)⟩
      · obtain ⟨o3, e3⟩ := ib.there b o1 e1 (by simp)
        obtain ⟨o2, e2⟩ := un.there b o3 e3 (by simp)
        exact ⟨o2, e2, .inr ⟨o3, e3⟩⟩
    have e3 := cov b hb2 hn2 o2 e2
    have e4 := fl'.1 b o2 e3
    rw [show h'.get? b = some o from e] at e4
    cases e4
    exact e3
end L2
namespace L2
open PySem PySem.Spec PyProof.Rows
theorem funs_base {h base B : Heap} : ∀ {l : List Env}, h.FunFrames base l → (∀ b ∈ frs l, B.get? b = none) → h.FunFrames B l
  | [], _, _ => trivial
  | env :: l, ⟨k, ⟨L, o, e1, e2, e3, e4⟩, r⟩, hb => by
    rw [frs_cons e1] at hb
    exact ⟨k, ⟨L, o, e1, hb L (List.mem_cons_self ..), e3, e4⟩, funs_base r fun b h' => hb b (List.mem_cons_of_mem _ h')⟩
section
variable {P : Program} {w : World} {K : PySem.W.Frag} {mg : Str → Option Value} {base : Heap} {N : List Str} {qual : Str} {scope : Scope} {f : Addr} {cd : Value} {A : Around} {outer : List Env} {s₀ : Shared} {H₀ : Hp} {E : XK}
theorem raise_cx {pins : List (Addr × Obj)} {σ : St} {H : Hp} {s : Shared} {e C : Addr} {vs : List Value} {h' : Heap} (I : Inv (cxOf (CXE P w) P w K mg base N qual scope f cd A outer s₀ H₀ E) pins σ H s) (mk : Heap.MadeExcOf s.heap h' e (.ref C) vs) (q : E (.ref C) none H) :
    (cxOf (CXE P w) P w K mg base N qual scope f cd A outer s₀ H₀ E).xe (.ref e) { s with heap := h' } := by
  have hfr : (envOfC qual scope s₀.heap.objs.size f cd).frame = some s₀.heap.objs.size := rfl
  have hfs : frs (envOfC qual scope s₀.heap.objs.size f cd :: outer) = s₀.heap.objs.size :: frs outer := frs_cons hfr
  refine wpAny_leaves_madeW (base := PySem.W.hideAll s.heap (frs (envOfC qual scope s₀.heap.objs.size f cd :: outer))) (h := s.heap) I.ok.frames hfr (fun b o e => PySem.W.of_hideAll _ e) (funs_base I.stack fun b hb => PySem.W.hideAll_none _ hb) mk fun h2 t fl _ _ ups => ?_
  have ib : Un (frs outer) [] H₀ H s₀.heap s.heap := I.base
  have nl : ∀ b o, s₀.heap.get? b = some o → b ≠ s₀.heap.objs.size := fun b o e => Nat.ne_of_lt (Heap.lt_size e)
  have inB : ∀ b o, s.heap.get? b = some o → b ∉ frs (envOfC qual scope s₀.heap.objs.size f cd :: outer) → h2.get? b = some o := fun b o e hn => fl.1 b o (PySem.W.hideAll_get _ e hn)
  have notin : ∀ b o, s₀.heap.get? b = some o → b ∉ frs outer → b ∉ frs (envOfC qual scope s₀.heap.objs.size f cd :: outer) := fun b o e hn z => by
    rw [hfs] at z
    rcases List.mem_cons.mp z with z | z
    · exact nl b o e z
    · exact hn z
  have isin : ∀ b, b ∈ frs outer → b ∈ frs (envOfC qual scope s₀.heap.objs.size f cd :: outer) := fun b hb => by rw [hfs]; exact List.mem_cons_of_mem _ hb
  refine ⟨e, C, t, H, rfl, I.os, I.bare, ?_, I.hok.on fun b u hb e => inB b u e (fun z => hb (I.stkFree b z)), ⟨_, fl, fun b hb hn o e => ?_⟩, q⟩
  · refine ⟨fun b o e hH hn _ => ?_, fun b o e hH hb _ => ?_, fun b o e hH _ => ib.free b o e hH (by simp), fun b o e _ => ?_, fun b xs e => ib.tups b xs e, fun b o u e => ib.frzs b o u e, fun b ps e => ib.tbls b ps e⟩
    · exact inB b o (ib.keep b o e hH hn (by simp)) (notin b o e hn)
    · obtain ⟨sl, e1⟩ := ib.slot b o e hH hb (by simp)
      obtain ⟨_, o', e', nf⟩ := funs_mem I.stack (isin b hb)
      rw [e1] at e'
      cases e'
      obtain ⟨sl3, e3⟩ := ups b _ (mk.keeps b _ e1) nf
      exact ⟨sl3, e3⟩
    · obtain ⟨o1, e1⟩ := ib.there b o e (by simp)
      by_cases hb : b ∈ frs outer
      · obtain ⟨_, o', e', nf⟩ := funs_mem I.stack (isin b hb)
        obtain ⟨sl3, e3⟩ := ups b _ (mk.keeps b _ e') nf
        exact ⟨_, e3⟩
      · exact ⟨o1, inB b o1 e1 (notin b o e hb)⟩
  · have hn2 : b ∉ frs (envOfC qual scope s₀.heap.objs.size f cd :: outer) := fun z => by
      rcases hb with hb | ⟨o1, e1⟩
      · exact hb (I.stkFree b z)
      · exact notin b o1 e1 hn z
    obtain ⟨o2, e2⟩ : ∃ o2, s.heap.get? b = some o2 := by
      rcases hb with hb | ⟨o1, e1⟩
      · cases hx : H b with
        | none => exact absurd hx hb
        | some u => exact obj_some (I.hok b u hx)
      · exact ib.there b o1 e1 (by simp)
    have e3 := inB b o2 e2 hn2
    have e : h2.get? b = some o := e
    rw [e] at e3
    cases e3
    exact PySem.W.hideAll_get _ e2 hn2
noncomputable def tRaise (E : XK) (C : Addr) (ta : TA) : TS := fun _ σ H => ta σ H fun vs H1 => vs.length ≤ 1000 ∧ E (.ref C) none H1
theorem ps_raise {x : Str} {C : Addr} {B newId initId : String} {bm : List Value} {e₀ : Expr} {rest : List Expr} {np cpos pos : Pos} {ta : TA} (O : OwnCls x C bm newId mg base) (FB : ExcBaseFacts B newId initId bm)
    (ha : PA (cxOf (CXE P w) P w K mg base N qual scope f cd A outer s₀ H₀ E) (e₀ :: rest) ta)
    (he : starEach (e₀ :: rest) (envOfC qual scope s₀.heap.objs.size f cd) = (false, eval e₀ (envOfC qual scope s₀.heap.objs.size f cd)) :: starEach rest (envOfC qual scope s₀.heap.objs.size f cd) := by rfl)
    (hplain : (backTo cpos (starEach rest (envOfC qual scope s₀.heap.objs.size f cd))).any (·.1) = false := by rfl)
    (hg : Gl (cxOf (CXE P w) P w K mg base N qual scope f cd A outer s₀ H₀ E) x := by rfl) (hd : (x == ("__debug__" : Str)) = false := by decide) :
    PS (cxOf (CXE P w) P w K mg base N qual scope f cd A outer s₀ H₀ E) (.Raise (some (.Call (.Name x np) (e₀ :: rest) [] cpos)) none pos) (tRaise E C ta) := by
  intro pins s σ H D I h
  obtain ⟨tl, Nn, nm, q, bs, hdct, sn, sub, ab, col, dd, k0, k1, k2, k3, k5, mN, hC, hN, hni, T⟩ := O.obj
  have hw := ha cpos pins s σ H _ I h
  refine wpAny_Raise_call_subT (C := C) (nm := nm) (q := q) (N := Nn) (bs := bs) (bm := tl) (hdct := hdct) (sn := sn) (sub := sub) (ab := ab) (col := col) (dd := dd) (k0 := k0) (k1 := k1) (k2 := k2) (k3 := k3) (k5 := k5)
    FB (mN := mN) (T.hasType FB.hasBase) (I.ok.hd rfl) (by
      show (backTo cpos (starEach (e₀ :: rest) (envOfC qual scope s₀.heap.objs.size f cd))).any (·.1) = false
      rw [he]
      show (false || (backTo cpos (starEach rest (envOfC qual scope s₀.heap.objs.size f cd))).any (·.1)) = false
      rw [hplain]; rfl) hni (ld_glob I hg O.bound ⟨rfl, ?_⟩ hd)
  have he' : starEach (e₀ :: rest) (cxOf (CXE P w) P w K mg base N qual scope f cd A outer s₀ H₀ E).env = (false, eval e₀ (envOfC qual scope s₀.heap.objs.size f cd)) :: starEach rest (envOfC qual scope s₀.heap.objs.size f cd) := he
  rw [he'] at hw ⊢
  refine Calls.evalArgs_plain (thn hw fun us s2 zPt => ?_)
  obtain ⟨vs, H1, I1, r, hl, hq⟩ := zPt
  have bk : ∀ b o, base.get? b = some o → s2.heap.get? b = some o := I1.bk
  refine ⟨rfl, ?_, bk _ _ hC, hN.keeps bk, T.keeps bk, fun h' e mk => raise_cx I1 mk hq⟩
  rw [← r.length]
  exact Nat.le_trans hl (by decide)
end
end L2
namespace L2
open PySem PySem.Spec PyProof.Rows
theorem upto_trans {h h1 h2 : Heap} (a : h.UpToSlots h1) (b : h1.UpToSlots h2) : h.UpToSlots h2 := fun c o e nf => by
  obtain ⟨sl, e1⟩ := a c o e nf
  obtain ⟨sl2, e2⟩ := b c _ e1 nf
  exact ⟨sl2, e2⟩
theorem flown_on {P : Program} {w : World} {l : List Env} {s s₁ : Shared} {H H' : Hp} {a C t : Addr} {B h3 : Heap} (un : Un (frs l) [] H H' s.heap s₁.heap) (hok : HOk P w H' s₁.heap) (fl : B.FlyingW l a (.ref C) (.ref t) s₁.heap)
    (cov : ∀ b, (H' b ≠ none ∨ ∃ o, s.heap.get? b = some o) → b ∉ frs l → ∀ o, s₁.heap.get? b = some o → B.get? b = some o) (untr : ∀ b ∈ frs l, H' b = none) (fl3 : B.FlyingW l a (.ref C) (.ref t) h3) (ups : s₁.heap.UpToSlots h3) :
    Un (frs l) [] H H' s.heap h3 ∧ HOk P w H' h3 := by
  have inB : ∀ b, (H' b ≠ none ∨ ∃ o, s.heap.get? b = some o) → b ∉ frs l → ∀ o, s₁.heap.get? b = some o → h3.get? b = some o := fun b hb hn o e => fl3.1 b o (cov b hb hn o e)
  refine ⟨⟨fun b o e hH hn hx => inB b (.inr ⟨o, e⟩) hn o (un.keep b o e hH hn hx), fun b o e hH hb hx => ?_, un.free, fun b o e hx => ?_, un.tups, un.frzs, un.tbls⟩, hok.on fun b u hb e => inB b (.inl hb) (fun z => hb (untr b z)) u e⟩
  · obtain ⟨sl, e1⟩ := un.slot b o e hH hb hx
    obtain ⟨_, o', e', nf⟩ := funs_mem fl.2.2.1 hb
    rw [e1] at e'
    cases e'
    obtain ⟨sl3, e3⟩ := ups b _ e1 nf
    exact ⟨sl3, e3⟩
  · obtain ⟨o1, e1⟩ := un.there b o e hx
    by_cases hb : b ∈ frs l
    · obtain ⟨_, o', e', nf⟩ := funs_mem fl.2.2.1 hb
      obtain ⟨sl, e2⟩ := ups b _ e' nf
      exact ⟨_, e2⟩
    · exact ⟨o1, inB b (.inr ⟨o, e⟩) hb o1 e1⟩
noncomputable def excO (a C : Addr) : HO := .ext fun h => ∃ o, h.get? a = some o ∧ o.cls = .ref C
theorem exc_ok {P : Program} {w : World} {H : Hp} {h : Heap} {a C : Addr} {o : Obj} (e : h.get? a = some o) (c : o.cls = .ref C) : ObjOk P w H h a (excO a C) :=
  ⟨⟨o, e, c⟩, ⟨o, e⟩, fun _ _ ⟨o, e, c⟩ k => ⟨o, k o e, c⟩⟩
theorem track_ok {P : Program} {w : World} {H : Hp} {h : Heap} {a : Addr} {u : HO} (hok : HOk P w H h) (n : H a = none) (new : ObjOk P w (upd H a u) h a u) : HOk P w (upd H a u) h := fun b o e => by
  by_cases z : b = a
  · subst z
    rw [upd_same] at e
    cases e
    exact new
  · rw [upd_ne z] at e
    have ne : ∀ c v, H c = some v → c ≠ a := fun c v q z => by rw [z, n] at q; cases q
    exact (hok b o e).stay (fun c v _ q => q) (fun c q => (upd_ne (ne c _ q)).trans q) fun c xs q => (upd_ne (ne c _ q)).trans q
theorem track_un {fs ex : List Addr} {H H' : Hp} {h h' : Heap} {a : Addr} {u : HO} (un : Un fs ex H H' h h') (n : H' a = none) (na : h.get? a = none) : Un fs ex H (upd H' a u) h h' := by
  have ne : ∀ c v, H' c = some v → c ≠ a := fun c v q z => by rw [z, n] at q; cases q
  refine ⟨un.keep, un.slot, fun b o e hH hx => ?_, un.there, fun b xs e => ?_, fun b o v e => ?_, fun b ps e => ?_⟩
  · have z : b ≠ a := fun z => by rw [z, na] at e; cases e
    rw [upd_ne z]
    exact un.free b o e hH hx
  · have := un.tups b xs e
    exact (upd_ne (ne _ _ this)).trans this
  · have := un.frzs b o v e
    exact (upd_ne (ne _ _ this)).trans this
  · obtain ⟨m, this⟩ := un.tbls b ps e
    exact ⟨m, (upd_ne (ne _ _ this)).trans this⟩
section
variable {X : Cx} {pins : List (Addr × Obj)} {σ : St} {H : Hp} {s s₁ : Shared} {E : XK} {e : Value}
theorem land {E1 E2 : Value → Shared → Prop} {R : Shared → Prop} (I : Inv X pins σ H s) (hst : X.stack = X.env :: X.outer) (hf : X.env.frame = some X.env.locals) (h : CXE X.prog X.w X.stack H s E e s₁)
    (k : ∀ (a C t : Addr) (H' : Hp) (B h3 : Heap), e = .ref a → B.FlyingW X.stack a (.ref C) (.ref t) h3 → s₁.heap.UpToSlots h3 → (∀ h4 : Heap, B.FlyingW X.stack a (.ref C) (.ref t) h4 → s₁.heap.UpToSlots h4 → Inv X pins σ H' { s₁ with heap := h4 } ∧ Inv X pins σ (upd H' a (excO a C)) { s₁ with heap := h4 }) → H' a = none → E (.ref C) none H' → R { s₁ with heap := h3 }) :
    wpAny (model X.prog X.w) X.A (noteFrame e X.env) (fun _ s₂ => wpAny (model X.prog X.w) X.A (setFlight e none) (fun _ s₃ => R s₃) E2 s₂) E1 s₁ := by
  obtain ⟨a, C, t, H', rfl, os, bare, un, hok, ⟨B, fl, cov⟩, q⟩ := h
  have untr : ∀ b ∈ frs X.stack, H' b = none := fun b hb => by
    obtain ⟨_, o, e, _⟩ := funs_mem I.stack hb
    exact un.free b o e (I.stkFree b hb) (by simp)
  obtain ⟨oa, hoa, hca⟩ := fl.there
  have af : a ∉ frs X.stack := fun z => by
    obtain ⟨_, _, _, oe, vs, T, oT, ts, he, hcls, hd, _⟩ := id fl
    obtain ⟨_, o', e', nf⟩ := funs_mem fl.2.2.1 z
    rw [he] at e'
    cases e'
    exact nf _ hd
  have an : H' a = none := by
    cases hx : H' a with
    | none => rfl
    | some u =>
      have := cov a (.inl (by rw [hx]; exact fun z => by cases z)) af oa hoa
      rw [fl.2.1] at this
      cases this
  have as : s.heap.get? a = none := by
    cases hx : s.heap.get? a with
    | none => rfl
    | some o =>
      have := cov a (.inr ⟨o, hx⟩) af oa hoa
      rw [fl.2.1] at this
      cases this
  have fl' := fl
  rw [hst] at fl'
  refine wpAny_looks_onW (by rw [I.ok.frames, hst]) hf fl' fun h2 hh u2 => wpAny_landsW (s := { s₁ with heap := h2 }) hh fun h3 fl3 u3 => ?_
  rw [← hst] at fl3
  refine k a C t H' B h3 rfl fl3 (upto_trans u2 u3) (fun h4 fl4 u4 => ?_) an q
  obtain ⟨un4, hok4⟩ := flown_on un hok fl cov untr fl4 u4
  obtain ⟨o4, e4, c4⟩ := fl4.there
  exact ⟨I.call' (s' := { s₁ with heap := h4 }) (ch := []) os un4 hok4 bare (fun _ z => by cases z), I.call' (s' := { s₁ with heap := h4 }) (ch := []) os (track_un un4 an as) (track_ok hok4 an (exc_ok e4 c4)) bare (fun _ z => by cases z)⟩
end
end L2
namespace L2
open PySem PySem.Spec PyProof.Rows
noncomputable def Cx.tryC (X : Cx) (pn : List (Addr × Obj)) (xe : Value → Shared → Prop) : Cx := { X with pn := pn, xe := xe }
noncomputable def Cx.markC (X : Cx) (a : Addr) (xe : Value → Shared → Prop) : Cx := { X with A := X.A.mark (some (.ref a)), calm := false, xe := xe }
section
variable {X : Cx} {pins pins0 : List (Addr × Obj)} {σ : St} {H : Hp} {s : Shared} {xe : Value → Shared → Prop}
theorem Inv.tryC (I : Inv X pins σ H s) : Inv (X.tryC (X.pn ++ pins) xe) [] σ H s :=
  ⟨⟨I.ok.mod, I.ok.kind, I.ok.glob, I.ok.blt, I.ok.above, I.ok.inj, I.ok.has, I.ok.cab, I.ok.hd, I.ok.frames, I.ok.stk, I.ok.exf, I.ok.bs, I.ok.bsz, I.ok.noex, I.ok.exfs, I.ok.funs, I.ok.frf⟩,
    I.os, I.bare, I.base, I.loc, I.cell, I.free, I.freeC, fun p hp => I.pin p (by simpa [Cx.tryC] using hp), I.hok, I.len⟩
theorem Inv.untry (ok : X.Ok) (I : Inv (X.tryC (X.pn ++ pins0) xe) pins σ H s) : Inv X pins0 σ H s :=
  ⟨ok, I.os, I.bare, I.base, I.loc, I.cell, I.free, I.freeC, fun p hp => I.pin p (List.mem_append_left _ hp), I.hok, I.len⟩
theorem Inv.markC {a : Addr} (I : Inv X pins σ H s) : Inv (X.markC a xe) pins σ H s :=
  ⟨⟨I.ok.mod, I.ok.kind, I.ok.glob, I.ok.blt, I.ok.above, I.ok.inj, I.ok.has, I.ok.cab, fun z => (by cases z), I.ok.frames, I.ok.stk, I.ok.exf, I.ok.bs, I.ok.bsz, I.ok.noex, I.ok.exfs, I.ok.funs, I.ok.frf⟩,
    I.os, I.bare, I.base, I.loc, I.cell, I.free, I.freeC, I.pin, I.hok, I.len⟩
theorem Inv.unmark {a : Addr} (ok : X.Ok) (I : Inv (X.markC a xe) pins σ H s) : Inv X pins σ H s :=
  ⟨ok, I.os, I.bare, I.base, I.loc, I.cell, I.free, I.freeC, I.pin, I.hok, I.len⟩
theorem unbind_ok {M : Model} {A : Around} {E : Value → Shared → Prop} {i : Nat} {x : Str} {v : V} {Q : Unit → Shared → Prop} (I : Inv X pins σ H s) (hN : X.N.Nodup) (hi : X.N[i]? = some x) (hx : X.env.scope.names.lookup x = some .local) (hv : σ[i]? = some (some v))
    (h : ∀ s', Inv X pins (σ.set i none) H s' → Q () s') : wpAny M A (unbindName X.env x) Q E s := by
  obtain ⟨m, hn, hl⟩ := id I.loc
  have hcls : (X.env.scope.kind == .class || (X.env.scope.kind == .module && X.env.locals != X.env.globals)) = false := by rw [I.ok.kind]; rfl
  obtain ⟨u0, _, q0⟩ := hl i x v hi hv (.inl hx)
  have hm : m x = some u0 := by
    rcases q0 with ⟨_, e⟩ | ⟨k, _⟩
    · exact e
    · rcases k with k | k
      · rw [show X.env.kindOf x = some .local from hx] at k; cases k
      · rw [show X.env.kindOf x = some .local from hx] at k; cases k
  have hiσ : i < σ.length := by rw [I.len]; exact (List.getElem?_eq_some_iff.mp hi).1
  have cne := I.cne
  refine wpAny_unbindName_local hx hn hm hcls fun h' u hn' hs => ?_
  obtain ⟨oL, _, _, hoL, _⟩ := id hn
  have neL : ∀ b o, X.s₀.heap.get? b = some o → b ≠ X.env.locals := fun b o e => Nat.ne_of_lt (Nat.lt_of_lt_of_le (Heap.lt_size e) I.ok.above)
  refine h _ ⟨I.ok, I.os, I.bare, ⟨fun b o e n hb hx => ?_, fun b o e n hb hx => ?_, I.base.free, fun b o e hx => ?_, I.base.tups, I.base.frzs, I.base.tbls⟩, ⟨_, hn', fun j y v' e1 e2 e3 => ?_⟩, fun y c e => ?_, I.free, I.freeC, fun p hp => ?_, fun b ob e => ?_, by simpa using I.len⟩
  · exact (hs.2 b (neL b o e)).trans (I.base.keep b o e n hb hx)
  · obtain ⟨sl, e1⟩ := I.base.slot b o e n hb hx
    exact ⟨sl, (hs.2 b (neL b o e)).trans e1⟩
  · obtain ⟨o', e1⟩ := I.base.there b o e hx
    exact ⟨o', (hs.2 b (neL b o e)).trans e1⟩
  · by_cases hj : j = i
    · subst hj
      rw [List.getElem?_set_self hiσ] at e2
      cases e2
    · rw [List.getElem?_set_ne (Ne.symm hj)] at e2
      obtain ⟨u', r', q⟩ := hl j y v' e1 e2 e3
      refine ⟨u', r', ?_⟩
      rcases q with ⟨k, e⟩ | ⟨k, c, e, z⟩
      · refine .inl ⟨k, ?_⟩
        have : y ≠ x := fun e => hj (nodup_ix hN e1 (e ▸ hi))
        simp [this, e]
      · exact .inr ⟨k, c, e, z.sameBut hs (cne y c e)⟩
  · obtain ⟨w', z⟩ := I.cell y c e
    exact ⟨w', z.sameBut hs (cne y c e)⟩
  · obtain ⟨e, n, ne, nf, d⟩ := I.pin p hp
    exact ⟨(hs.2 p.1 ne).trans e, n, ne, nf, d⟩
  · refine (I.hok b ob e).stay (fun c w' hc q => (hs.2 c ?_).trans q) (fun _ q => q) fun _ _ q => q
    rintro rfl
    rcases hc with rfl | hc
    · rw [I.free] at e; cases e
    · rw [I.free] at hc; cases hc
end
noncomputable def dTry (j : Nat) (D : Ends) : Ends := { nx := fun σ H => D.nx (σ.set j none) H, rt := D.rt, bk := fun σ H => D.bk (σ.set j none) H, ct := fun σ H => D.ct (σ.set j none) H }
noncomputable def eTry (K : PySem.W.Frag) (CL : Addr) (len j : Nat) (ts : TS) (D : Ends) : XK := fun cls _ H' => ∃ C, cls = .ref C ∧ PySem.W.exmOne K cls (.ref CL) = some true ∧
  ∀ (a : Addr) (σ : St), H' a = none → σ.length = len → ts (dTry j D) (σ.set j (some (.ref a))) (upd H' a (excO a C))
noncomputable def tTry (K : PySem.W.Frag) (CL : Addr) (len j : Nat) (tb : XK → TS) (ts : TS) : TS := fun D σ H => tb (eTry K CL len j ts D) D σ H
end L2
namespace L2
open PySem PySem.Spec PyProof.Rows PySem.W
theorem ps_try {X : Cx} {x n : Str} {CL : Addr} {j : Nat} {body : List Stmt} {b₀ : Stmt} {suite : List Stmt} {tb : XK → TS} {ts : TS} {xp hp pos : Pos} (hst : X.stack = X.env :: X.outer) (hf : X.env.frame = some X.env.locals) (hm : X.mg x = some (.ref CL))
    (hN : X.N.Nodup) (hj : X.N[j]? = some n) (hx : X.env.scope.names.lookup n = some .local)
    (hb : ∀ (pn : List (Addr × Obj)) (xe : Value → Shared → Prop) (E : XK), Passes (CXE X.prog X.w) (X.tryC pn xe) E → PSs (X.tryC pn xe) body (tb E)) (hs : ∀ (a : Addr) (xe : Value → Shared → Prop), PSs (X.markC a xe) (b₀ :: suite) ts)
    (hg : Gl X x := by rfl) (hd : (x == ("__debug__" : Str)) = false := by decide) :
    PS X (.Try body [.ExceptHandler (some (.Name x xp)) (some n) (b₀ :: suite) hp] [] [] pos) (tTry X.K CL X.N.length j tb ts) := by
  intro pins s σ H D I h
  refine wpAny_Try_except ?_
  have pass : Passes (CXE X.prog X.w) (X.tryC (X.pn ++ pins) (fun e s₁ => wpAny (model X.prog X.w) X.A (noteFrame e X.env) (fun _ s₂ => wpAny (model X.prog X.w) X.A (setFlight e none) (fun _ s₃ => wpAny (model X.prog X.w) X.A (handleBy e X.env [.ExceptHandler (some (.Name x xp)) (some n) (b₀ :: suite) hp]) (SP X pins D) X.xe s₃) X.xe s₂) X.xe s₁)) (eTry X.K CL X.N.length j ts D) := by
    intro pins' σ' H1 s1 e s' I1 hc
    have I1' : Inv X pins σ' H1 s1 := I1.untry I.ok
    refine land I1' hst hf hc fun a C t H' B h3 e0 fl3 u3 inv an q => ?_
    subst e0
    obtain ⟨C', eC, hx', hr⟩ := q
    cases eC
    have I3 := (inv h3 fl3 u3).1
    obtain ⟨oa, hoa, hca⟩ := fl3.there
    refine wpAny_handleBy_cons (codeAny_handlers_test ?_) (by intro q; cases q)
    refine Calls.Name_function_global I.ok.kind hg (Calls.loadGlobal_global (by rw [I.ok.glob]; exact I.mod.glob.keeps I3.bk) hm ?_) hd
    have lt : Looks (model X.prog X.w) h3 (typeOf (.ref a)) (.ref C) := hca ▸ (Looks.ld hoa).andThen .now
    refine Looks.here (s := { s' with heap := h3 }) (PySem.W.exm_one (K := X.K) I3.kIn lt hx') ?_
    show codeAny _ _ (.handlers (.ref a) [.ExceptHandler none (some n) (b₀ :: suite) hp] X.env) _ _
    refine codeAny_handlers_suite_as ?_
    refine wpAny_setFlight_noneW (base := B) (l := X.stack) (s := { s' with heap := h3 }) fl3.1 fl3.2.2.1 fl3.2.2.2 fun h4 k1 k2 k3 k4 => ?_
    have fl4 : B.FlyingW X.stack a (.ref C) (.ref t) h4 := ⟨k1, fl3.2.1, k2, k3⟩
    have u4 : s'.heap.UpToSlots h4 := upto_trans u3 fun b o e nf => ⟨o.slots, k4 b o e nf⟩
    have I4 := (inv h4 fl4 u4).2
    refine store_ok (v := .ref a) I4 hN hj (.inl hx) rfl (fun s5 I5 => ?_) (.inr hx)
    refine wpAny_mono (hs a _ pins s5 _ _ (dTry j D) I5.markC (hr a σ' an I1'.len)) (fun f s6 hq => ?_) fun _ _ y => y
    have fin : ∀ σ6 H6, Inv X pins σ6 H6 s6 → ∀ Qf : Shared → Prop, (∀ s7, Inv X pins (σ6.set j none) H6 s7 → Qf s7) → wpAny (model X.prog X.w) X.A (do bindName X.env n .none; unbindBehindTheSuite X.env n hp) (fun _ s₃ => Qf s₃) X.xe s6 := fun σ6 H6 I6 Qf hQ => by
      refine wpAny_bind (bindName_ (store_ok (v := .non) I6 hN hj (.inl hx) rfl (fun s7 I7 => ?_) (.inr hx)))
      unfold unbindBehindTheSuite
      have hl6 : j < σ6.length := by rw [I6.len]; exact (List.getElem?_eq_some_iff.mp hj).1
      refine wpAny_onRaise (unbind_ok (v := .non) I7 hN hj hx (by rw [List.getElem?_set_self hl6]) fun s8 I8 => ?_)
      rw [List.set_set] at I8
      exact hQ s8 I8
    show wpAny (model X.prog X.w) X.A (do bindName X.env n .none; unbindBehindTheSuite X.env n hp) (fun _ s₃ => SP X pins D f s₃) X.xe s6
    cases f with
    | next =>
      obtain ⟨σ6, H6, I6, q6⟩ := hq
      exact fin σ6 H6 (I6.unmark I.ok) _ fun s7 I7 => ⟨_, _, I7, q6⟩
    | brk =>
      obtain ⟨σ6, H6, I6, q6⟩ := hq
      exact fin σ6 H6 (I6.unmark I.ok) _ fun s7 I7 => ⟨_, _, I7, q6⟩
    | cont =>
      obtain ⟨σ6, H6, I6, q6⟩ := hq
      exact fin σ6 H6 (I6.unmark I.ok) _ fun s7 I7 => ⟨_, _, I7, q6⟩
    | ret u =>
      obtain ⟨v6, σ6, H6, I6, r6, q6⟩ := hq
      exact fin σ6 H6 (I6.unmark I.ok) _ fun s7 I7 => ⟨v6, _, _, I7, r6, q6⟩
  refine wpAny_mono (hb _ _ _ pass [] s σ H D I.tryC h) (fun f s₁ hq => ?_) fun _ _ y => y
  cases f with
  | next =>
    obtain ⟨σ', H', I', q'⟩ := hq
    exact wpAny_execs_nil ⟨σ', H', I'.untry I.ok, q'⟩
  | brk =>
    obtain ⟨σ', H', I', q'⟩ := hq
    exact ⟨σ', H', I'.untry I.ok, q'⟩
  | cont =>
    obtain ⟨σ', H', I', q'⟩ := hq
    exact ⟨σ', H', I'.untry I.ok, q'⟩
  | ret u =>
    obtain ⟨v', σ', H', I', r', q'⟩ := hq
    exact ⟨v', σ', H', I'.untry I.ok, r', q'⟩
end L2
namespace HT
open PySem PySem.Spec PyProof.Rows PySem.W PySem.Calls PySem.Builtin PySem.Builtin.ObjectAttr PySem.Builtin.Getset_descriptor
noncomputable def ExcAt (a C : Addr) (h : Heap) : Prop := ∃ o, h.get? a = some o ∧ o.cls = .ref C
set_option genInjectivity false in
structure ExcKind (K : Frag) (C : Addr) : Prop where
  cl : (clsIn K C).isSome = true
  ga : findIn K (.ref C) "__getattribute__" = some (some (.builtin "BaseException.__getattribute__"))
  ng : findIn K (.ref C) "__getattr__" = some none
  hb : mroIn K C (.type "BaseException") = some true
  ha : findIn K (.ref C) "__class__" = some (some (.builtin "object.__class__"))
  hn : specialIn K (.builtin "object.__class__") "__get__" = some (some (.builtin "getset_descriptor.__get__"))
  htk : takesIn K (.builtin "object.__class__") = some true
  hm : mroIn K C (.type "object") = some true
theorem ExcAt.type {M : Model} {h : Heap} {a C : Addr} (x : ExcAt a C h) : Looks M h (typeOf (.ref a)) (.ref C) := by
  obtain ⟨o, e, c⟩ := x
  exact c ▸ (Looks.ld e).andThen .now
theorem exc_find {K : Frag} {M : Model} {h : Heap} {a C : Addr} (k : ExcKind K C) (X : K.In h) : Looks M h (find (.ref a) (.ref C) "__class__") (.bind (.builtin "getset_descriptor.__get__") (.builtin "object.__class__")) := by
  have L1 := looks_findIn (M := M) X k.ha
  have L2 : Looks M h (getOf (some (.builtin "object.__class__"))) (some (.builtin "getset_descriptor.__get__")) := looks_specialIn X k.hn
  have L3 := looks_takesIn (M := M) X k.htk
  exact L1.andThen (L2.andThen ((show Looks M h (dataDescriptor? (some (.builtin "object.__class__")) (some (.builtin "getset_descriptor.__get__"))) (some (.builtin "getset_descriptor.__get__", .builtin "object.__class__")) from L3.andThen .now).andThen (Looks.tag .now)))
section
variable {prog : Program} {w : World} {A : Around} {E : Value → Shared → Prop} {s : Shared} {K : Frag} {a C : Addr}
theorem exc_get {R : Result → Shared → Prop} {tp : Value} (X : K.In s.heap) (x : ExcAt a C s.heap) (hm : mroIn K C (.type "object") = some true) (h : R (.ok (.ret (.ref C))) s) :
    codeAny (model prog w) A (.call (.builtin "getset_descriptor.__get__") ⟨[.builtin "object.__class__", .ref a, tp], []⟩) R s := by
  obtain ⟨hh, g, dr, t, os⟩ := s
  have L0 := x.type (M := model prog w)
  have L1 := looks_mroIn (M := model prog w) X hm
  refine codeAny_call_builtin KF.slot_gs.plain KF.entry_gs (KF.slot_gs.check _ _ _ _ _ _ _ _ KF.type_class (KF.args_gs _ _ _) ?_)
  unfold Builtin.«getset_descriptor.__get__» descrGet
  rw [dga_obj]
  refine wpAny_bind (wpAny_pure ?_)
  unfold descrGetter descrCheckInstance descrNameAndClass isInstance
  simp only [KF.owner_class]
  repeat lk
  refine ⟨Code.quiet_builtin _ (by decide +kernel), codeAny_builtin KF.entry_class ?_⟩
  unfold Builtin.«object.__class__» shownTypeOf
  repeat lk
  exact h
theorem exc_check {Q : Unit → Shared → Prop} {nameV : Value} (k : ExcKind K C) (X : K.In s.heap) (x : ExcAt a C s.heap) (h : Q () s) : wpAny (model prog w) A (checkBuiltinCall "BaseException.__getattribute__" ⟨[.ref a, nameV], []⟩) Q E s := by
  have hk : builtinKind "BaseException.__getattribute__" = some .slot := by decide +kernel
  have hsplit : splitId "BaseException.__getattribute__" = some ("BaseException", "__getattribute__") := by decide +kernel
  have ha := PySem.F.args_bexc_ga (.ref a) nameV
  have L0 := x.type (M := model prog w)
  have L1 := looks_mroIn (M := model prog w) X k.hb
  simp only [checkBuiltinCall, hk, hsplit]
  refine wpAny_bind ?_
  unfold isInstance
  repeat lk
  exact h
theorem exc_class {Q : Option Value → Shared → Prop} (k : ExcKind K C) (X : K.In s.heap) (x : ExcAt a C s.heap) (h : Q (some (.ref C)) { s with toks := s.toks + 1 }) : wpAny (model prog w) A (getAttr? (.ref a) "__class__") Q E s := by
  obtain ⟨hh, g, d, t, os⟩ := s
  have L0 := x.type (M := model prog w)
  have L1 := looks_findIn (M := model prog w) X k.ga
  have L2 := looks_findIn (M := model prog w) X k.ng
  have L3 := exc_find (M := model prog w) (a := a) k X
  unfold getAttr? getAttrBy? getAttrBy
  refine wpAny_bind (wpAny_mkText (wpAny_bind (wpAny_attempt (wpAny_holding (wpAny_bind (L0.at (wpAny_bind (L1.at ?_))))))))
  show wpAny _ _ (getAttrByItsOwn (.ref a) _ (.ref C) (.builtin "BaseException.__getattribute__") false false) _ _ _
  unfold getAttrByItsOwn
  refine wpAny_bind (L2.at ?_)
  refine wpAny_bind (wpAny_attempt (wpAny_holding ?_))
  show wpAny _ _ (boundAndCalled (.builtin "BaseException.__getattribute__") (.ref a) _) _ _ _
  unfold boundAndCalled
  rw [PySem.F.excAttr_ValueError.ga.bind (.ref a)]
  refine wpAny_bind (wpAny_pure ?_)
  refine wpAny_call (codeAny_call_builtin PySem.F.excAttr_ValueError.ga.plain PySem.F.entry_bexc_ga (exc_check (s := ⟨hh, g, d, t + 1, os⟩) k X x ?_))
  unfold Builtin.«object.__getattribute__»
  iterate 22 lk
  refine wpAny_call (exc_get (s := ⟨hh, g, d, t + 1, os⟩) X x k.hm ?_)
  repeat lk
  exact h
theorem kitx_exc (k : ExcKind K C) : KitX K (.ref a) (.ref C) (ExcAt a C) where
  ty := fun _ _ _ x => x.type
  it := fun _ _ X _ => by
    obtain ⟨cd, hc⟩ := Option.isSome_iff_exists.mp k.cl
    unfold clsIn at hc
    split at hc
    · rename_i c' d' cd' sl' ho
      intro A' Q' E' s' kk q
      unfold isType loadHead
      exact wpAny_bind (wpAny_loadPart (kk _ _ (X _ _ ho)) (wpAny_pure q))
    · cases hc
  ne := fun h tp dd its n sl X htp => by
    obtain ⟨cd, hc⟩ := Option.isSome_iff_exists.mp k.cl
    refine Bool.eq_false_iff.mpr fun q => ?_
    have e : C = tp := Value.ref.inj (beq_iff_eq.mp q)
    subst e
    unfold clsIn at hc
    split at hc
    · rename_i c' d' cd' sl' ho
      have z := (X _ _ ho).symm.trans htp
      cases z
    · cases hc
  ca := fun X x h => exc_class k X x h
end
end HT
namespace L2
open PySem PySem.Spec PyProof.Rows
theorem isexc_ok {X : Cx} {pins : List (Addr × Obj)} {σ : St} {H : Hp} {s : Shared} {A : Around} {E : Value → Shared → Prop} {Q : Value → Shared → Prop} {a C : Addr} {c : Value} {b : Bool} (I : Inv X pins σ H s) (e : H a = some (excO a C)) (k : HT.ExcKind X.K C)
    (h : PySem.W.kitOne X.K (.ref C) c = some b) (hq : ∀ tk, Q (.bool b) { s with toks := tk }) : wpAny (model X.prog X.w) A (call (.builtin "isinstance") [.ref a, c]) Q E s :=
  PySem.W.kia_one (HT.kitx_exc k) I.kIn (show HT.ExcAt a C s.heap from (show ObjOk X.prog X.w H s.heap a (excO a C) from I.hok a _ e).1) h (fun z => nomatch z) hq
noncomputable def rIsinE (K : PySem.W.Frag) : List V → Hp → VK → Prop := fun xs H Q => ∃ (y c : V) (cv t : Value) (b : Bool), xs = [y, c] ∧ ((∃ D, c = .ref D ∧ cv = .ref D) ∨ ∃ T, c = .ty T ∧ cv = .type T) ∧ PySem.W.kitOne K t cv = some b ∧
  (TyOf K H y t ∨ ∃ a C, y = .ref a ∧ H a = some (excO a C) ∧ t = .ref C ∧ HT.ExcKind K C) ∧ Q (.bl b) H
theorem k_isinE {X : Cx} {K : PySem.W.Frag} (hK : X.K = K := by rfl) : CallR X (.builtin "isinstance") (rIsinE K) := by
  subst hK
  intro pins s σ H xs us Q I r h
  obtain ⟨y, c, cv, t, b, rfl, hc, e, hy, q⟩ := h
  obtain ⟨u, c', rfl, rx, rc⟩ := vals2 r
  have ec : c' = cv := by
    rcases hc with ⟨D, rfl, rfl⟩ | ⟨T, rfl, rfl⟩
    · exact rc
    · exact rc
  subst ec
  rcases hy with ty | ⟨a, C, rfl, ha, rfl, k⟩
  · exact isinst_ok I rx ty e fun tk => ⟨.bl b, H, I.tok tk, rfl, q⟩
  · cases rx
    exact isexc_ok I ha k e fun tk => ⟨.bl b, H, I.tok tk, rfl, q⟩
theorem rd_isinE {K : PySem.W.Frag} {H : Hp} {Q : VK} {a C D : Addr} {b : Bool} (ha : H a = some (excO a C)) (k : HT.ExcKind K C) (e : PySem.W.kitOne K (.ref C) (.ref D) = some b) (h : Q (.bl b) H) : rIsinE K [.ref a, .ref D] H Q :=
  ⟨_, _, _, _, b, rfl, .inl ⟨D, rfl, rfl⟩, e, .inr ⟨a, C, rfl, ha, rfl, k⟩, h⟩
theorem rd_isinET {K : PySem.W.Frag} {H : Hp} {Q : VK} {a C : Addr} {T : String} {b : Bool} (ha : H a = some (excO a C)) (k : HT.ExcKind K C) (e : PySem.W.kitOne K (.ref C) (.type T) = some b) (h : Q (.bl b) H) : rIsinE K [.ref a, .ty T] H Q :=
  ⟨_, _, _, _, b, rfl, .inr ⟨T, rfl, rfl⟩, e, .inr ⟨a, C, rfl, ha, rfl, k⟩, h⟩
end L2
namespace HT
open PySem PySem.Spec PyProof.Rows PySem.W
theorem own_mk {K : Frag} {base : Heap} {mg : Str → Option Value} {x : Str} {C : Addr} {bmB : List Value} {newId : String} (X : K.In base) (hm : mg x = some (.ref C)) (q : excIn K C bmB newId = true) : OwnCls x C bmB newId mg base := by
  refine ⟨hm, ?_⟩
  unfold excIn at q
  split at q
  · rename_i dd cd sl ho
    split at q
    · rename_i C' bm k0 k1 k2 k3 n k5 hm' hs
      simp only [Bool.and_eq_true, beq_iff_eq, Bool.not_eq_true'] at q
      obtain ⟨⟨⟨⟨⟨rfl, rfl⟩, hdel⟩, ht⟩, hok⟩, hni⟩ := q
      obtain ⟨nm, bs, mro, ns, qn, hd, sn, sub, ab, col, del⟩ := cd
      dsimp only at hm' hdel hok hni
      subst hm' hdel
      obtain ⟨l⟩ := sl
      have hsl : l = [k0, k1, k2, k3, some (.builtin n), k5] := hs
      subst hsl
      exact ⟨bm, ns, nm, qn, bs, hd, sn, sub, ab, col, dd, k0, k1, k2, k3, k5, _, X _ _ ho, .of_isNs (isNs_of_in X hok), nsMap_none_of_in X hok hni, tail_of_in X ht⟩
    · cases q
  · cases q
end HT
namespace L2
open PySem PySem.Spec PyProof.Rows
noncomputable def CallE (P : Program) (w : World) (K : PySem.W.Frag) (mg : Str → Option Value) (base : Heap) (x : Str) (k : Nat) (ps : List Str) (sp : Sp) : Prop :=
  ∃ f fd, mg x = some (.ref f) ∧ PySem.W.keepIn K (.ref f) = true ∧ FnOk P w K mg base (CXE P w) k f fd ps sp ∧ Binds K fd ps []
noncomputable def MakeE (P : Program) (w : World) (K : PySem.W.Frag) (mg : Str → Option Value) (base : Heap) (x : Str) (C : Addr) (k : Nat) (ps : List Str) (sp : Sp) : Prop :=
  ∃ f fd, mg x = some (.ref C) ∧ Mk K C f ∧ FnOk P w K mg base (CXE P w) k f fd ps sp ∧ Binds K fd ps []
theorem DefAt.callE {P : Program} {w : World} {K : PySem.W.Frag} {mg : Str → Option Value} {base : Heap} {x : Str} {st : Stmt} {ps : List Str} {f : Addr} {fd : FuncData} {k : Nat} {sp : Sp} (d : DefAt K mg x st ps f fd)
    (F : FnOk P w K mg base (CXE P w) k f fd ps sp) : CallE P w K mg base x k ps sp := ⟨f, fd, d.at', d.fn.kp, F, d.bi⟩
section
variable {X : Cx} {x : Str} {C : Addr} {k : Nat} {ps : List Str} {sp : Sp} {E : XK} {e : Expr} {es : List Expr} {t : TA} {p pos : Pos}
theorem pe_callE (h : CallE X.prog X.w X.K X.mg X.base x k ps sp) (hr : Room k X.A) (hx : Passes (CXE X.prog X.w) X E) (ha : PA X (e :: es) t) (hg : Gl X x := by rfl) (hdb : (x == ("__debug__" : Str)) = false := by decide)
    (he : starEach (e :: es) X.env = (false, eval e X.env) :: starEach es X.env := by rfl) (hpl : (backTo pos (starEach es X.env)).any (·.1) = false := by rfl) :
    PE X (.Call (.Name x p) (e :: es) [] pos) (tCall sp [] E t) := by
  obtain ⟨f, fd, hm, hk, F, hb⟩ := h
  exact pe_call F hr hg hm hk hb .nil hx ha hdb he hpl
theorem pe_makeE (h : MakeE X.prog X.w X.K X.mg X.base x C k ps sp) (hr : Room (k + 1) X.A) (hx : Passes (CXE X.prog X.w) X E) (ha : PA X (e :: es) t) (hg : Gl X x := by rfl) (hdb : (x == ("__debug__" : Str)) = false := by decide)
    (he : starEach (e :: es) X.env = (false, eval e X.env) :: starEach es X.env := by rfl) (hpl : (backTo pos (starEach es X.env)).any (·.1) = false := by rfl) :
    PE X (.Call (.Name x p) (e :: es) [] pos) (tMake C sp [] E t) := by
  obtain ⟨f, fd, hm, M, F, hb⟩ := h
  exact pe_make M F hr hg hm hb .nil hx ha hdb he hpl
end
theorem passE {P : Program} {w : World} {K : PySem.W.Frag} {mg : Str → Option Value} {base : Heap} {N : List Str} {qual : Str} {scope : Scope} {f : Addr} {cd : Value} {A : Around} {outer : List Env} {s₀ : Shared} {H₀ : Hp} {E : XK} :
    Passes (CXE P w) (cxOf (CXE P w) P w K mg base N qual scope f cd A outer s₀ H₀ E) E := passes_cx fun _ _ _ h => h
end L2
namespace L2
open PySem PySem.Spec PyProof.Rows
section
variable {P : Program} {w : World} {K : PySem.W.Frag} {mg : Str → Option Value} {base : Heap}
theorem Fun.okE {x qual : Str} {st : Stmt} {f : Addr} {fd : FuncData} {N ps : List Str} {k : Nat} {sp : Sp} (F : Fun K x qual st f fd) (S : FnScope N ps (defScope st)) (len : ∀ vs H Q E, sp vs H Q E → vs.length = ps.length)
    (hbody : ∀ (cdv : Value) (A : Around) (outer : List Env) (s : Shared) (H : Hp) (vs : List V) (Q : VK) (E : XK), Room k (A.deeper (envOfC qual (defScope st) s.heap.objs.size f cdv)) → sp vs H Q E →
      ∃ t, PSs (cxOf (CXE P w) P w K mg base N qual (defScope st) f cdv A outer s H E) (defBody st) t ∧ t { nx := fun _ H' => Q .non H', rt := Q } (start N vs) H) : FnOk P w K mg base (CXE P w) (k + 1) f fd ps sp := by
  obtain ⟨oc, od, kV, doc, pm, an, cdv, ct, osl, rfl, lk, hcd⟩ := F.ex
  refine fn_of lk hcd S len fun A outer s H vs Q E hr hsp => ?_
  exact hbody cdv A outer s H vs Q E hr hsp
theorem ps_raiseK {N : List Str} {qual : Str} {scope : Scope} {f : Addr} {cd : Value} {A : Around} {outer : List Env} {s₀ : Shared} {H₀ : Hp} {E : XK} {x : Str} {C : Addr} {e₀ : Expr} {rest : List Expr} {np cpos pos : Pos} {ta : TA} (hm : mg x = some (.ref C))
    (q : PySem.W.excIn K C [.type "ValueError", .type "Exception", .type "BaseException", .type "object"] "ValueError.__new__" = true) (ha : PA (cxOf (CXE P w) P w K mg base N qual scope f cd A outer s₀ H₀ E) (e₀ :: rest) ta)
    (he : starEach (e₀ :: rest) (envOfC qual scope s₀.heap.objs.size f cd) = (false, eval e₀ (envOfC qual scope s₀.heap.objs.size f cd)) :: starEach rest (envOfC qual scope s₀.heap.objs.size f cd) := by rfl)
    (hplain : (backTo cpos (starEach rest (envOfC qual scope s₀.heap.objs.size f cd))).any (·.1) = false := by rfl)
    (hg : Gl (cxOf (CXE P w) P w K mg base N qual scope f cd A outer s₀ H₀ E) x := by rfl) (hd : (x == ("__debug__" : Str)) = false := by decide) :
    PS (cxOf (CXE P w) P w K mg base N qual scope f cd A outer s₀ H₀ E) (.Raise (some (.Call (.Name x np) (e₀ :: rest) [] cpos)) none pos) (tRaise E C ta) := fun pins s σ H D I h =>
  ps_raise (HT.own_mk I.mod.kin hm q) PySem.F.excBase_ValueError ha he hplain hg hd pins s σ H D I h
end
end L2
namespace L2
open PySem PySem.Spec PyProof.Rows
theorem boot_ValueError : bootBuiltins "ValueError" = some (.type "ValueError") := by decide +kernel
theorem passN {X : Cx} : Passes (CXE X.prog X.w) X E0 := by
  intro pins σ H s e s' I h
  obtain ⟨_, _, _, _, _, _, _, _, _, _, q⟩ := h
  exact False.elim q
theorem TyOf.same {K : PySem.W.Frag} {H H' : Hp} {x : V} {t : Value} (h : TyOf K H x t) (s : Same H H') : TyOf K H' x t := by
  cases h with
  | non => exact .non
  | bl x => exact .bl x
  | int i => exact .int i
  | str x => exact .str x
  | flt x => exact .flt x
  | lst e => exact .lst (s _ _ e)
  | frz e => exact .frz (s _ _ e)
  | tup e => exact .tup (s _ _ e)
  | dK e => exact .dK (s _ _ e)
  | dT e => exact .dT (s _ _ e)
  | ins e cl ha hn htk hm => exact .ins (s _ _ e) cl ha hn htk hm
theorem Ty.same {K : PySem.W.Frag} {H H' : Hp} {x : V} (h : Ty K H x) (s : Same H H') : Ty K H' x := let ⟨n, t⟩ := h; ⟨n, t.same s⟩
theorem rd_makeE {C : Addr} {sp : Sp} {t : TA} {σ : St} {H : Hp} {Q : VK} {E : XK} (h : t σ H fun vs H1 => ∀ x dx, H1 x = none → H1 dx = none → dx ≠ x → sp (.ref x :: vs) (upd (upd H1 dx (.own x)) x (.ins C dx [])) (fun v H2 => v = .non ∧ Q (.ref x) H2) E) : tMake C sp [] E t σ H Q := by
  unfold tMake
  simpa using h
theorem rd_end {j : Nat} {D : Ends} {σ : St} {H : Hp} (h : D.nx (σ.set j none) H) : (dTry j D).nx σ H := h
theorem rd_try {K : PySem.W.Frag} {CL : Addr} {len j : Nat} {tb : XK → TS} {ts : TS} {D : Ends} {σ : St} {H : Hp} (h : tb (eTry K CL len j ts D) D σ H) : tTry K CL len j tb ts D σ H := h
end L2
namespace HT
open PySem PySem.Spec PyProof.Rows PySem.SeqAt
open PySem.AutoSeq1 (wpAny_loadPart')
open PySem.MeetsSeq PySem.MeetsSeq2 PySem.MeetsSeq3
section
variable {A : Around} {s : Shared}
end
end HT
namespace L2
open PySem PySem.Spec PyProof.Rows
section
variable {X : Cx} {pins : List (Addr × Obj)} {σ : St} {H : Hp} {s : Shared}
end
theorem ifE {c : Bool} {ta tb : TE} {σ : St} {H : Hp} {R : VK} (P : V → Hp → Prop) (h1 : ∀ v H', P v H' → R v H') (h2 : ∀ R' : VK, (∀ v H', P v H' → R' v H') → if c = true then ta σ H R' else tb σ H R') : if c = true then ta σ H R else tb σ H R := h2 R h1
end L2
namespace L2
open PySem PySem.Spec PyProof.Rows PySem.W
noncomputable def exO (a : Addr) (o : Obj) : HO := .ext fun h => h.get? a = some o
theorem exO_ok {P : Program} {w : World} {H : Hp} {h : Heap} {a : Addr} {o : Obj} (e : h.get? a = some o) : ObjOk P w H h a (exO a o) := ⟨e, ⟨o, e⟩, fun _ _ x k => k o x⟩
theorem exO_get {P : Program} {w : World} {H : Hp} {h : Heap} {a : Addr} {o : Obj} (x : ObjOk P w H h a (exO a o)) : h.get? a = some o := x.1
noncomputable def cxL (P : Program) (w : World) (K : PySem.W.Frag) (mg : Str → Option Value) (base : Heap) (N : List Str) (qual : Str) (scope : Scope) (f : Addr) (cd : Value) (cl : List (Str × Addr)) (A : Around) (outer : List Env) (s : Shared) (H : Hp) (E : XK) : Cx where
  prog := P
  w := w
  K := K
  mg := mg
  base := base
  A := A.deeper (envX qual scope s.heap.objs.size f cd cl)
  N := N
  s₀ := s
  H₀ := H
  env := envX qual scope s.heap.objs.size f cd cl
  outer := outer
  stack := envX qual scope s.heap.objs.size f cd cl :: outer
  ex := []
  calm := true
  fn := fun _ => false
  pn := []
  xe := fun e s' => wpAny (model P w) (A.deeper (envX qual scope s.heap.objs.size f cd cl)) (leaving (envX qual scope s.heap.objs.size f cd cl) e) (fun _ s'' => CXE P w outer H s E e s'') (fun e' s'' => CXE P w outer H s E e' s'') s'
section
variable {P : Program} {w : World} {K : PySem.W.Frag} {mg : Str → Option Value} {base : Heap} {N : List Str} {qual : Str} {scope : Scope} {f : Addr} {cd : Value} {cl : List (Str × Addr)} {A : Around} {outer : List Env} {s : Shared} {H : Hp} {E : XK}
set_option genInjectivity false in
structure ClOkL (N : List Str) (scope : Scope) (cl : List (Str × Addr)) (h : Heap) (H : Hp) (vs : List V) : Prop where
  len : vs.length = N.length
  inj : ∀ x y c, cl.lookup x = some c → cl.lookup y = some c → x = y
  has : ∀ x, (scope.names.lookup x = some .cell ∨ scope.names.lookup x = some .free) → ∃ c, cl.lookup x = some c
  val : ∀ (i : Nat) (x : Str) (v : V), N[i]? = some x → vs[i]? = some v → ∃ c u, scope.names.lookup x = some .free ∧ cl.lookup x = some c ∧ RelV v u ∧ h.IsCell c (some u)
  cell : ∀ x c, cl.lookup x = some c → (∃ v, h.IsCell c v) ∧ H c = none
theorem inv_startL {vs : List V} {h' : Heap} {tk : Nat} (hk : scope.kind = .function) (hd : A.handled = none) (e0 : Env0 P w K mg base A outer s H) (C : ClOkL N scope cl s.heap H vs) (hns : h'.Ns s.heap.objs.size fun _ => none) (kp : ∀ b o, s.heap.get? b = some o → h'.get? b = some o) :
    Inv (cxL P w K mg base N qual scope f cd cl A outer s H E) [] (vs.map some) H { s with heap := h', toks := tk } := by
  have noA : ∀ b : Addr, b ∉ (cxL P w K mg base N qual scope f cd cl A outer s H E).ex := fun b z => absurd (show b ∈ ([] : List Addr) from z) (by simp)
  have ic : ∀ c v, s.heap.IsCell c v → h'.IsCell c v := fun c v ⟨o, e, d⟩ => ⟨o, kp _ _ e, d⟩
  refine ⟨⟨e0.mod, hk, rfl, rfl, Nat.le_refl _, C.inj, C.has, fun y c z _ => (by cases z), fun _ => hd, Around.frames_deeper e0.frames, .inr ⟨rfl, rfl⟩, fun b z => absurd z (noA b), e0.bs, e0.bsz, fun b _ _ => noA b, fun b z => absurd z (noA b), e0.funs, e0.frf⟩,
    rfl, e0.bare, Un.kept kp, ⟨_, hns, fun i y v h1 h2 h3 => ?_⟩, fun y c h => ?_, e0.hok.fresh (Nat.le_refl _), fun y c h => (C.cell y c h).2, fun p hp => absurd (show p ∈ ([] : List (Addr × Obj)) from hp) (by simp), e0.hok.kept kp, by rw [List.length_map]; exact C.len⟩
  · have h2' : vs[i]? = some v := by
      rw [List.getElem?_map] at h2
      cases e : vs[i]? with
      | none => rw [e] at h2; cases h2
      | some a => rw [e] at h2; cases h2; rfl
    obtain ⟨c, u, k, l, r, ce⟩ := C.val i y v h1 h2'
    exact ⟨u, r, .inr ⟨.inr k, c, l, ic _ _ ce⟩⟩
  · obtain ⟨v, z⟩ := (C.cell y c h).1
    exact ⟨v, ic _ _ z⟩
theorem passL {s₀ : Shared} {H₀ : Hp} {E' : XK}
    (hE : ∀ c o H, E c o H → E' c o H) : Passes (CXE P w) (cxL P w K mg base N qual scope f cd cl A outer s₀ H₀ E') E := by
  intro pins σ H s e s' I h
  obtain ⟨a, C, t, H', rfl, os, bare, un, hok, ⟨B, fl, cov⟩, q⟩ := h
  have hfr : (envX qual scope s₀.heap.objs.size f cd cl).frame = some s₀.heap.objs.size := rfl
  have hfs : frs (envX qual scope s₀.heap.objs.size f cd cl :: outer) = s₀.heap.objs.size :: frs outer := frs_cons hfr
  refine wpAny_leaves_onW I.ok.frames hfr fl fun h' fl' ups => ?_
  have ib : Un (frs outer) [] H₀ H s₀.heap s.heap := I.base
  have nl : ∀ b o, s₀.heap.get? b = some o → b ≠ s₀.heap.objs.size := fun b o e => Nat.ne_of_lt (Heap.lt_size e)
  have toB : ∀ b, (H' b ≠ none ∨ ∃ o, s.heap.get? b = some o) → b ∉ frs (envX qual scope s₀.heap.objs.size f cd cl :: outer) → ∀ o, s'.heap.get? b = some o → h'.get? b = some o := fun b hb hn o e => fl'.1 b o (cov b hb hn o e)
  have untr : ∀ b, b ∈ frs (envX qual scope s₀.heap.objs.size f cd cl :: outer) → H' b = none := fun b hb => by
    obtain ⟨_, o, e, _⟩ := funs_mem I.stack hb
    exact un.free b o e (I.stkFree b hb) (by simp)
  have hok' : HOk P w H' h' := hok.on fun b u hb e => by
    refine toB b (.inl hb) (fun z => hb (untr b z)) u e
  refine ⟨a, C, t, H', rfl, os.trans I.os, bare, ?_, hok', ⟨B, fl', fun b hb hn o e => ?_⟩, hE _ _ _ q⟩
  · have notin : ∀ b o, s₀.heap.get? b = some o → b ∉ frs outer → b ∉ frs (envX qual scope s₀.heap.objs.size f cd cl :: outer) := fun b o e hn z => by
      rw [hfs] at z
      rcases List.mem_cons.mp z with z | z
      · exact nl b o e z
      · exact hn z
    have isin : ∀ b, b ∈ frs outer → b ∈ frs (envX qual scope s₀.heap.objs.size f cd cl :: outer) := fun b hb => by rw [hfs]; exact List.mem_cons_of_mem _ hb
    refine ⟨fun b o e hH hn _ => ?_, fun b o e hH hb _ => ?_, fun b o e hH _ => ?_, fun b o e _ => ?_, fun b xs e => un.tups b xs (ib.tups b xs e), fun b o u e => un.frzs b o u (ib.frzs b o u e), fun b ps e => ?_⟩
    · have e1 := ib.keep b o e hH hn (by simp)
      exact toB b (.inr ⟨o, e1⟩) (notin b o e hn) o (un.keep b o e1 (ib.free b o e hH (by simp)) (notin b o e hn) (by simp))
    · obtain ⟨sl, e1⟩ := ib.slot b o e hH hb (by simp)
      obtain ⟨sl2, e2⟩ := un.slot b _ e1 (ib.free b o e hH (by simp)) (isin b hb) (by simp)
      obtain ⟨_, o', e', nf⟩ := funs_mem fl.2.2.1 (isin b hb)
      rw [e2] at e'
      cases e'
      obtain ⟨sl3, e3⟩ := ups b _ e2 nf
      exact ⟨sl3, e3⟩
    · obtain ⟨o1, e1⟩ := ib.there b o e (by simp)
      exact un.free b o1 e1 (ib.free b o e hH (by simp)) (by simp)
    · obtain ⟨o1, e1⟩ := ib.there b o e (by simp)
      obtain ⟨o2, e2⟩ := un.there b o1 e1 (by simp)
      by_cases hb : b ∈ frs outer
      · obtain ⟨_, o', e', nf⟩ := funs_mem fl.2.2.1 (isin b hb)
        obtain ⟨sl3, e3⟩ := ups b _ e' nf
        exact ⟨_, e3⟩
      · exact ⟨o2, toB b (.inr ⟨o1, e1⟩) (notin b o e hb) o2 e2⟩
    · obtain ⟨m1, e1⟩ := ib.tbls b ps e
      obtain ⟨m2, e2⟩ := un.tbls b _ e1
      exact ⟨m1 ++ m2, by rw [e2, Array.append_assoc]⟩
  · have hn2 : b ∉ frs (envX qual scope s₀.heap.objs.size f cd cl :: outer) := fun z => by
      have z0 := z
      rw [hfs] at z
      rcases List.mem_cons.mp z with z | z
      · rcases hb with hb | ⟨o1, e1⟩
        · exact hb (untr b z0)
        · exact nl b o1 e1 z
      · exact hn z
    obtain ⟨o2, e2, hb2⟩ : ∃ o2, s'.heap.get? b = some o2 ∧ (H' b ≠ none ∨ ∃ o, s.heap.get? b = some o) := by
      rcases hb with hb | ⟨o1, e1⟩
      · cases hx : H' b with
        | none => exact absurd hx hb
        | some u =>
          obtain ⟨o2, e2⟩ := obj_some (hok b u hx)
          exact ⟨o2, e2, .inl (fun z => by cases z)⟩
      · obtain ⟨o3, e3⟩ := ib.there b o1 e1 (by simp)
        obtain ⟨o2, e2⟩ := un.there b o3 e3 (by simp)
        exact ⟨o2, e2, .inr ⟨o3, e3⟩⟩
    have e3 := cov b hb2 hn2 o2 e2
    have e4 := fl'.1 b o2 e3
    rw [show h'.get? b = some o from e] at e4
    cases e4
    exact e3
theorem runL {k : Nat} {params : Arguments} {body : Expr} {pm ctv : Value} {c' : Addr} {vs : List V} {Q : VK} {tb : TE} (ho : s.heap.get? f = some (kla_obj "<lambda>" qual params body scope cl pm c' ctv)) (hcd : s.heap.CodeRec (.ref c') qual) (hr : Room (k + 1) A) (e0 : Env0 P w K mg base A outer s H)
    (hk : scope.kind = .function) (hco : scope.isCoroutine = false) (hgen : scope.isGenerator = false) (hcell : ∀ x ∈ scope.names, x.2 ≠ .cell) (hbind : bindArgs (kla_fn "<lambda>" qual params body scope cl pm (.ref c') ctv) ⟨[], []⟩ = pure []) (C : ClOkL N scope cl s.heap H vs)
    (hb : PE (cxL P w K mg base N qual scope f (.ref c') cl A outer s H E) body tb) (h : tb (vs.map some) H Q) : codeAny (model P w) A (.call (.ref f) ⟨[], []⟩) (CR (CXE P w) outer P w H s Q E) s := by
  have lim : s.heap.NoLimit := e0.mod.nolimit.keeps fun b o e => (e0.bs b o e).1
  refine kla_callFunE hr.depth ho rfl hco hgen rfl hcd ?_
  rw [hbind]
  refine wpAny_pure (wpAny_newFunctionEnv hcell (fun x hx => by cases hx) (fun h₁ hns hsb => ⟨lim.fresh _ hsb, ?_⟩) hk)
  have kp : ∀ b o, s.heap.get? b = some o → h₁.get? b = some o := fun b o e => hsb.extBut b o (Nat.ne_of_lt (Heap.lt_size e)) (Heap.get?_push_of_some _ e)
  show codeAny _ _ (.expr body (envX qual scope s.heap.objs.size f (.ref c') cl)) _ _
  refine kla_codeExpr ?_
  have I : Inv (cxL P w K mg base N qual scope f (.ref c') cl A outer s H E) [] (vs.map some) H { s with heap := h₁, toks := s.toks + 0 } := inv_startL hk hr.hd e0 C hns kp
  refine wpAny_mono (hb [] _ _ H Q I h) (fun u s' hs => ?_) fun e s' hs => hs
  obtain ⟨v, H', J, rv, q⟩ := hs
  exact ⟨v, H', J.os, J.bare, J.base, J.hok, rv, q⟩
end
theorem ClOkL.on {N : List Str} {scope : Scope} {cl : List (Str × Addr)} {h h' : Heap} {H H' : Hp} {vs : List V} (C : ClOkL N scope cl h H vs) (k : ∀ x c o, cl.lookup x = some c → h.get? c = some o → h'.get? c = some o ∧ H' c = none) : ClOkL N scope cl h' H' vs := by
  refine ⟨C.len, C.inj, C.has, fun i x v h1 h2 => ?_, fun x c e => ?_⟩
  · obtain ⟨c, u, k1, l, r, o, e, d⟩ := C.val i x v h1 h2
    exact ⟨c, u, k1, l, r, o, (k x c o l e).1, d⟩
  · obtain ⟨⟨v, o, e1, d⟩, _⟩ := C.cell x c e
    exact ⟨⟨v, o, (k x c o e e1).1, d⟩, (k x c o e e1).2⟩
noncomputable def codeO (qual : Str) (oc : Obj) : Prop := ∃ vs t, oc.data = .fields vs ∧ vs[1]? = some (.str qual t)
noncomputable def tThunk (f c' : Addr) (oc : Obj) (vs : List V) (to tb : TE) : TE := fun σ H Q => to σ H fun v H1 => v = .ref f ∧ H1 c' = some (exO c' oc) ∧ tb (vs.map some) H1 Q
theorem pe_thunk {X : Cx} {k : Nat} {E : XK} {N : List Str} {qual : Str} {scope : Scope} {f c' : Addr} {oc : Obj} {cl : List (Str × Addr)} {params : Arguments} {body : Expr} {pm ctv : Value} {vs : List V} {o : Expr} {to tb : TE} {pos : Pos}
    (ho : PE X o to) (hx : Passes (CXE X.prog X.w) X E) (hr : Room (k + 1) X.A) (hex : X.ex = []) (hf : X.s₀.heap.get? f = some (kla_obj "<lambda>" qual params body scope cl pm c' ctv)) (hf0 : X.H₀ f = none) (nf : f ∉ X.fs) (hoc : codeO qual oc)
    (C : ClOkL N scope cl X.s₀.heap X.H₀ vs) (nc : ∀ x c, cl.lookup x = some c → c ∉ X.fs)
    (hk : scope.kind = .function) (hco : scope.isCoroutine = false) (hgen : scope.isGenerator = false) (hcell : ∀ x ∈ scope.names, x.2 ≠ .cell) (hbind : bindArgs (kla_fn "<lambda>" qual params body scope cl pm (.ref c') ctv) ⟨[], []⟩ = pure [])
    (hb : ∀ (s : Shared) (H : Hp), PE (cxL X.prog X.w X.K X.mg X.base N qual scope f (.ref c') cl X.A X.stack s H E) body tb)
    (ht : eval (.Call o [] [] pos) X.env = (do callWith pos (← eval o X.env) [] (backTo pos (starEach [] X.env)) (backToKw pos (keywordEach [] X.env))) := by rfl) :
    PE X (.Call o [] [] pos) (tThunk f c' oc vs to tb) := by
  intro pins s σ H Q I h
  rw [ht]
  refine wpAny_bind (thn (ho pins s σ H _ I h) fun u s1 zPt => ?_)
  obtain ⟨x, H1, I1, rx, ex, hc, q⟩ := zPt
  subst ex
  obtain rfl : u = Value.ref f := rx
  have nex : ∀ b : Addr, b ∉ X.ex := fun b => by rw [hex]; simp
  have hf1 := I1.base.keep f _ hf hf0 nf (nex f)
  obtain ⟨vs', t, d, e1⟩ := hoc
  have hcd : s1.heap.CodeRec (.ref c') qual := ⟨c', oc, vs', t, rfl, exO_get (I1.hok c' _ hc), d, e1⟩
  have C1 : ClOkL N scope cl s1.heap H1 vs := C.on fun y c o l e => ⟨I1.base.keep c o e (C.cell y c l).2 (nc y c l) (nex c), I1.base.free c o e (C.cell y c l).2 (nex c)⟩
  refine callWith_F0 ⟨_, _, _, _, hf1⟩ ?_
  refine wpAny_call (codeAny_mono (runL (tb := tb) (E := E) hf1 hcd hr I1.env0 hk hco hgen hcell hbind C1 (hb s1 H1) q) fun r s' hq => ?_)
  cases r with
  | error e => exact hx pins σ H1 s1 e s' I1 hq
  | ok fl =>
    cases fl with
    | ret u => exact I1.after hq
    | next => exact False.elim hq
    | brk => exact False.elim hq
    | cont => exact False.elim hq
theorem fn_run {CX : CXT} {P : Program} {w : World} {K : PySem.W.Frag} {mg : Str → Option Value} {base : Heap} {k : Nat} {f : Addr} {name qual : Str} {params : Arguments} {body : List Stmt} {scope : Scope} {dV kV doc pm cdv ct oc : Value} {an od : Option Addr}
    {osl : Array (Option Value)} {N ps : List Str} (lk : K.lookup f = some ⟨oc, od, .func (PySem.W.fnOf name qual params body scope dV kV doc pm an cdv ct), osl⟩) (hcd : PySem.W.codeIn K cdv qual = true) (S : FnScope N ps scope)
    {A : Around} {outer : List Env} {s : Shared} {H : Hp} {args : Args} {us : List Value} {vs : List V} {Q : VK} {E : XK} {t : TS} (hr : Room (k + 1) A) (e0 : Env0 P w K mg base A outer s H) (hb : BindsTo s (PySem.W.fnOf name qual params body scope dV kV doc pm an cdv ct) args (ps.zip us)) (r : Vals vs us) (hl : vs.length = ps.length)
    (ht : PSs (cxOf CX P w K mg base N qual scope f cdv A outer s H E) body t) (hq : t { nx := fun _ H' => Q .non H', rt := Q } (start N vs) H) : codeAny (model P w) A (.call (.ref f) args) (CR CX outer P w H s Q E) s := by
  have kin := e0.mod.kin.keeps fun b o e => (e0.bs b o e).1
  have kinds : ∀ y ∈ ps.zip us, scope.names.lookup y.1 = some .local ∨ (scope.names.lookup y.1 = some .cell ∧ ((cellsFrom (s.heap.objs.size + 1) scope.names []).lookup y.1).isSome = true) := by
    intro y hy
    exact (S.par y.1 (List.of_mem_zip hy).1).imp id fun z => ⟨z, PySem.W.cellsFrom_some _ _ _ (.inl z)⟩
  refine codeAny_call_function hr.depth (kin _ _ lk) rfl S.co S.gen rfl (PySem.W.codeRec_of kin hcd) (hb _ _ _ _ (wpAny_newFunctionEnv_cells S.kind kinds ?_))
  rintro _ rfl s1 x
  refine ⟨(e0.mod.nolimit.keeps fun b o e => (e0.bs b o e).1).keeps x.toInCall.keep, codeAny_func (wpAny_mono (ht [] s1 (start N vs) H _ (inv_start S hr.hd e0 hl r x) hq) ?_ fun _ _ z => z)⟩
  intro fl s' z
  match fl, z with
  | .ret u, ⟨v, _, H', J, rv, q⟩ => exact ⟨v, H', J.os, J.bare, J.base, J.hok, rv, q⟩
  | .next, ⟨_, H', J, q⟩ => exact ⟨V.non, H', J.os, J.bare, J.base, J.hok, rfl, q⟩
  | .brk, ⟨_, _, _, q⟩ => exact False.elim q
  | .cont, ⟨_, _, _, q⟩ => exact False.elim q
end L2
namespace L2
open PySem PySem.Spec PyProof.Rows PySem.W
theorem among_app {p : Pos} {c cv : Value} {a b : Int} {t u : Tok} : ∀ (l : List Value), TriplesOk l → codeAmong p (l ++ [.int a t, .int b u, c]) = some cv → codeAmong p l = some cv ∨ cv = c
  | [], _, h => by
    right
    simp only [List.nil_append, codeAmong] at h
    split at h
    · exact (Option.some.inj h).symm
    · cases h
  | .int x tx :: .int y ty :: z :: rest, ok, h => by
    have h : codeAmong p (.int x tx :: .int y ty :: z :: (rest ++ [.int a t, .int b u, c])) = some cv := h
    simp only [codeAmong] at h ⊢
    split at h
    · rename_i hc
      rw [if_pos hc]
      exact .inl h
    · rename_i hc
      rw [if_neg hc]
      exact among_app rest ok h
noncomputable def LamT (H : Hp) (P : Addr) (qual : Str) : Prop := ∃ ps : Array Value, H P = some (.tbl ps) ∧ TriplesOk ps.toList ∧ ∀ pos cv, codeAmong pos ps.toList = some cv → ∃ c' oc, cv = .ref c' ∧ H c' = some (exO c' oc) ∧ codeO qual oc
set_option genInjectivity false in
structure LamX (X : Cx) (c P : Addr) : Prop where
  code : X.env.code = .ref c
  hd : CodeHd X.base c P
  blt : X.base.BuiltinsAt X.mg P
section
variable {X : Cx} {pins : List (Addr × Obj)} {σ : St} {H : Hp} {s : Shared}
theorem mkL {c P : Addr} {params : Arguments} {body : Expr} {scope : Scope} {pos : Pos} {Q : Value → Shared → Prop} {E : Value → Shared → Prop} (L : LamX X c P) (hfree : ∀ y ∈ scope.names, y.2 = .free → X.env.kindOf y.1 = some .cell) (hdef : defaultsOf params X.env = ([], []))
    (I : Inv X pins σ H s) (hT : LamT H P (X.env.qual ++ "<lambda>"))
    (h : ∀ f c' oc pm ctv H' s', Inv X pins σ H' s' → s'.heap.get? f = some (kla_obj "<lambda>" (X.env.qual ++ "<lambda>") params body scope (closOf X.env.cells scope.names []) pm c' ctv) → H' f = none → s.heap.objs.size ≤ f → H' c' = some (exO c' oc) → codeO (X.env.qual ++ "<lambda>") oc →
      LamT H' P (X.env.qual ++ "<lambda>") → (∀ b o, b ≠ P → H b = some o → H' b = some o) → Q (.ref f) s') :
    wpAny (model X.prog X.w) X.A (eval (.Lambda params body scope pos) X.env) Q E s := by
  obtain ⟨ps, hP, ok, hit⟩ := hT
  have hPh : s.heap.get? P = some (tabObj ps) := I.hok P _ hP
  have hcl : closureFor scope X.env = pure (closOf X.env.cells scope.names []) := closureFor_eq fun y hy e => I.ok.has y.1 (.inl (hfree y hy e))
  have hg : s.heap.Ns mainGlobals X.mg := I.mod.glob.keeps I.bk
  have C := L.hd.keeps I.bk
  have nP : ∀ b, H b = none → b ≠ P := fun b n z => by rw [z, hP] at n; cases n
  have hgP : mainGlobals ≠ P := fun q => by
    obtain ⟨o, es, ep, e, d, _⟩ := hg
    rw [q, hPh] at e; cases e; cases d
  have hb : s.heap.BuiltinsAt X.mg P := by
    obtain ⟨bm, o, a1, a2, a3, a4, a5, r⟩ := L.blt
    exact ⟨bm, o, a1, a2, a3, a4, I.bk _ _ a5, r⟩
  refine kla_eval hdef ?_
  cases hc : codeAmong pos ps.toList with
  | some cv =>
    obtain ⟨c', oc, rfl, hc', hoc⟩ := hit pos cv hc
    refine kla_makeFunctionHit hcl I.ok.glob hg L.code C hPh ok hc hb fun ctv h' tk kp sz => ?_
    have kp2 : ∀ b o, s.heap.get? b = some o → (h'.push (kla_obj "<lambda>" (X.env.qual ++ "<lambda>") params body scope (closOf X.env.cells scope.names []) ((X.mg "__name__").getD .none) c' ctv)).get? b = some o := fun b o e => Heap.get?_push_of_some _ (kp b o e)
    refine h h'.objs.size c' oc _ ctv H _ (I.un (Un.kept kp2) (I.hok.kept kp2)) (Heap.get?_push_size _ rfl) (I.hok.fresh sz) sz hc' hoc ⟨ps, hP, ok, hit⟩ fun b o _ e => e
  | none =>
    refine kla_makeFunction hcl I.ok.glob hg L.code C hPh ok hc hgP hb fun c' ctv h' tk hx hge hlt hrec htb => ?_
    obtain ⟨c2, oc, vs, t, e2, hoc, hd, hv⟩ := hrec
    cases e2
    generalize hps : ps ++ #[rawInt pos.line, rawInt pos.col, .ref c'] = ps' at htb
    have hcn : H c' = none := I.hok.fresh hge
    have ncP : c' ≠ P := fun z => by rw [z, hP] at hcn; cases hcn
    generalize hfo : kla_obj "<lambda>" (X.env.qual ++ "<lambda>") params body scope (closOf X.env.cells scope.names []) ((X.mg "__name__").getD .none) c' ctv = fo
    have kp : ∀ b o, b ≠ P → s.heap.get? b = some o → (h'.push fo).get? b = some o := fun b o hb e => Heap.get?_push_of_some _ (hx b o hb e)
    have fz : s.heap.objs.size ≤ h'.objs.size := Nat.le_of_lt (Nat.lt_of_le_of_lt hge hlt)
    have nc : ∀ b u, H b = some u → b ≠ c' := fun b u q z => by rw [z, hcn] at q; cases q
    have nT : ∀ b u, H b = some u → (∀ qs, u ≠ .tbl qs) → b ≠ P := fun b u q n z => by rw [z, hP] at q; cases q; exact n _ rfl
    have old : ∀ b u, b ≠ P → H b = some u → upd (upd H c' (exO c' oc)) P (.tbl ps') b = some u := fun b u hb q => by rw [upd_ne hb, upd_ne (nc b u q)]; exact q
    have hok' : HOk X.prog X.w (upd (upd H c' (exO c' oc)) P (.tbl ps')) (h'.push fo) := fun a o e => by
      by_cases ha : a = P
      · subst ha
        rw [upd_same] at e
        cases e
        exact Heap.get?_push_of_some _ htb
      · rw [upd_ne ha] at e
        by_cases ha2 : a = c'
        · subst ha2
          rw [upd_same] at e
          cases e
          exact exO_ok (Heap.get?_push_of_some _ hoc)
        · rw [upd_ne ha2] at e
          refine (I.hok a o e).stay (fun b u hb q => kp b u ?_ q) (fun b q => old b _ (nT b _ q fun _ z => by cases z) q) fun b xs q => old b _ (nT b _ q fun _ z => by cases z) q
          rcases hb with rfl | hb
          · exact ha
          · exact nT b _ hb fun _ z => by cases z
    have I' : Inv X pins σ (upd (upd H c' (exO c' oc)) P (.tbl ps')) { s with heap := h'.push fo, toks := tk } := by
      refine I.step (g' := s.gens) (d' := s.drawn) (ch := []) (fun _ z => nomatch z) (fun b o _ _ _ e n => kp b o (nP b n) e) (fun b o _ _ _ e n => ⟨o.slots, kp b o (nP b n) e⟩) (fun b o _ e n => ?_) (fun b o _ e => ?_) (fun b xs q => old b _ (nT b _ q fun _ z => by cases z) q) (fun b o u q => old b _ (nT b _ q fun _ z => by cases z) q) (fun b qs q => ?_) (fun m hm => ?_) hok' I.bare
      · rw [upd_ne (nP b n), upd_ne (Nat.ne_of_lt (Nat.lt_of_lt_of_le (Heap.lt_size e) hge))]
        exact n
      · by_cases hb : b = P
        · subst hb
          exact ⟨_, Heap.get?_push_of_some _ htb⟩
        · exact ⟨o, kp b o hb e⟩
      · by_cases hb : b = P
        · subst hb
          rw [hP] at q
          cases q
          exact ⟨_, by rw [upd_same, ← hps]⟩
        · exact ⟨#[], by rw [old b _ hb q]; simp⟩
      · exact (hm.extBut hx (nP _ I.free)).push _
    subst hfo
    refine h h'.objs.size c' oc _ ctv _ _ I' (Heap.get?_push_size _ rfl) ?_ fz ?_ ⟨vs, t, hd, hv⟩ ⟨ps', upd_same, ?_, fun p cv q => ?_⟩ fun b o hb q => old b o hb q
    · have hn : H h'.objs.size = none := I.hok.fresh fz
      rw [upd_ne (nP _ hn), upd_ne (Nat.ne_of_gt hlt)]
      exact hn
    · rw [upd_ne ncP, upd_same]
    · rw [← hps, Array.toList_append]
      exact TriplesOk_snoc _ _ _ _ ok
    · rw [← hps, Array.toList_append] at q
      rcases among_app ps.toList ok q with z | rfl
      · obtain ⟨c1, oc1, e1, e2, e3⟩ := hit p cv z
        exact ⟨c1, oc1, e1, old c1 _ (nT c1 _ e2 fun _ z => by cases z) e2, e3⟩
      · exact ⟨c', oc, rfl, by rw [upd_ne ncP, upd_same], vs, t, hd, hv⟩
end
set_option genInjectivity false in
structure LamOk (params : Arguments) (scope : Scope) : Prop where
  kind : scope.kind = .function
  co : scope.isCoroutine = false
  gen : scope.isGenerator = false
  cell : ∀ x ∈ scope.names, x.2 ≠ .cell
  bind : ∀ (qual : Str) (body : Expr) (cl : List (Str × Addr)) (pm cdv ctv : Value), bindArgs (kla_fn "<lambda>" qual params body scope cl pm cdv ctv) ⟨[], []⟩ = pure []
noncomputable def CaughtAt (P : Program) (w : World) (K : PySem.W.Frag) (mg : Str → Option Value) (base : Heap) (fc : Addr) (k kb : Nat) (sp : (XK → TE) → List V → Hp → VK → Prop) : Prop :=
  keepIn K (.ref fc) = true ∧ ∀ (A : Around) (outer : List Env) (s : Shared) (H : Hp) (f c' : Addr) (oc : Obj) (N : List Str) (qual : Str) (scope : Scope) (cl : List (Str × Addr)) (params : Arguments) (body : Expr) (pm ctv : Value) (vs : List V) (tb : XK → TE) (Q : VK),
    Room k A → Env0 P w K mg base A outer s H → s.heap.get? f = some (kla_obj "<lambda>" qual params body scope cl pm c' ctv) → H f = none → f ∉ frs outer → H c' = some (exO c' oc) → codeO qual oc → ClOkL N scope cl s.heap H vs → (∀ x c, cl.lookup x = some c → c ∉ frs outer) → LamOk params scope →
    (∀ (A' : Around) (outer' : List Env) (s' : Shared) (H' : Hp) (E' : XK), Room kb (A'.deeper (envX qual scope s'.heap.objs.size f (.ref c') cl)) → PE (cxL P w K mg base N qual scope f (.ref c') cl A' outer' s' H' E') body (tb E')) →
    sp tb vs H Q → codeAny (model P w) A (.call (.ref fc) ⟨[.ref f], []⟩) (CR CX0 outer P w H s Q E0) s
noncomputable def tCaught (P : Addr) (qual : Str) (idx : List Nat) (sp : (XK → TE) → List V → Hp → VK → Prop) (tb : XK → TE) : TE := fun σ H Q => LamT H P qual ∧ ∃ vs : List V, vs.length = idx.length ∧ (∀ (i j : Nat), idx[i]? = some j → ∃ v, vs[i]? = some v ∧ σ[j]? = some (some v)) ∧
  ∀ H', LamT H' P qual → (∀ b o, b ≠ P → H b = some o → H' b = some o) → sp tb vs H' Q
theorem pe_caught {X : Cx} {x : Str} {fc c P : Addr} {k kb : Nat} {sp : (XK → TE) → List V → Hp → VK → Prop} {params : Arguments} {body : Expr} {scope : Scope} {p lpos pos : Pos} {N : List Str} {idx : List Nat} {tb : XK → TE}
    (hm : X.mg x = some (.ref fc)) (hC : CaughtAt X.prog X.w X.K X.mg X.base fc k kb sp) (hr : Room k X.A) (L : LamX X c P) (hst : X.stack = X.env :: X.outer) (hfm : X.env.frame = some X.env.locals) (hfn : ∀ y, X.fn y = true) (lo : LamOk params scope) (hdef : defaultsOf params X.env = ([], []))
    (hfree : ∀ y ∈ scope.names, y.2 = .free → X.env.kindOf y.1 = some .cell) (hmem : ∀ y, (scope.names.lookup y = some .cell ∨ scope.names.lookup y = some .free) → (y, NameKind.free) ∈ scope.names) (hlen : N.length = idx.length)
    (hN : ∀ (i : Nat) (y : Str), N[i]? = some y → ∃ j, idx[i]? = some j ∧ X.N[j]? = some y ∧ scope.names.lookup y = some .free ∧ X.env.kindOf y = some .cell)
    (hb : ∀ (f c' : Addr) (cl : List (Str × Addr)) (A' : Around) (outer' : List Env) (s' : Shared) (H' : Hp) (E' : XK), Room kb (A'.deeper (envX (X.env.qual ++ "<lambda>") scope s'.heap.objs.size f (.ref c') cl)) → PE (cxL X.prog X.w X.K X.mg X.base N (X.env.qual ++ "<lambda>") scope f (.ref c') cl A' outer' s' H' E') body (tb E'))
    (hg : Gl X x := by rfl) (hdb : (x == ("__debug__" : Str)) = false := by decide) (he : starEach [.Lambda params body scope lpos] X.env = (false, eval (.Lambda params body scope lpos) X.env) :: starEach [] X.env := by rfl) :
    PE X (.Call (.Name x p) [.Lambda params body scope lpos] [] pos) (tCaught P (X.env.qual ++ "<lambda>") idx sp tb) := by
  intro pins s σ H Q I h
  obtain ⟨hT, vs, lv, hv, h⟩ := h
  refine wpAny_Call_Name_kw (ld_glob I hg hm ?_ hdb)
  refine PySem.W.callWith_K (h₀ := X.base) I.ok.mod.kin hC.1 ?_ he rfl
  rw [he]
  show wpAny _ _ (spliced ((false, eval (.Lambda params body scope lpos) X.env) :: backTo pos (starEach [] X.env))) _ _ s
  refine Calls.spliced_cons (mkL L hfree hdef I hT fun f c' oc pm ctv H' s' I' hf hf0 fz hc' hoc hT' old => ?_)
  refine Calls.spliced_nil ⟨I'.kIn, ?_⟩
  have sub : ∀ y a, (closOf X.env.cells scope.names []).lookup y = some a → X.env.cells.lookup y = some a := closOf_sub scope.names [] fun y a z => by cases z
  have hfs : frs X.stack = X.env.locals :: frs X.outer := by rw [hst]; exact frs_cons hfm
  have C : ClOkL N scope (closOf X.env.cells scope.names []) s'.heap H' vs := by
    refine ⟨by rw [lv, hlen], fun y z a h1 h2 => I.ok.inj y z a (sub y a h1) (sub z a h2), fun y hy => ?_, fun i y v h1 h2 => ?_, fun y a e => ⟨I'.cell y a (sub y a e), I'.freeC y a (sub y a e)⟩⟩
    · exact closOf_has scope.names [] y (.inl ⟨hmem y hy, I.ok.has y (.inl (hfree _ (hmem y hy) rfl))⟩)
    · obtain ⟨j, hj, hXN, hk, hcell⟩ := hN i y h1
      obtain ⟨v', hv', hσ⟩ := hv i j hj
      have ev : v' = v := Option.some.inj (hv'.symm.trans h2)
      subst ev
      obtain ⟨m, hn, hl⟩ := id I'.loc
      obtain ⟨u, r, lk⟩ := hl j y v' hXN hσ (.inr (.inl hcell))
      obtain ⟨a, ha⟩ := closOf_has (cells := X.env.cells) scope.names [] y (.inl ⟨hmem y (.inr hk), I.ok.has y (.inl hcell)⟩)
      rcases lk with ⟨kk, _⟩ | ⟨_, a', e', ce⟩
      · rw [hcell] at kk; cases kk
      · have := sub y a ha
        rw [e'] at this
        cases this
        exact ⟨a, u, hk, ha, r, ce⟩
  have nc : ∀ y a, (closOf X.env.cells scope.names []).lookup y = some a → a ∉ frs X.stack := fun y a e z => by
    have e := sub y a e
    rw [hfs] at z
    rcases List.mem_cons.mp z with z | z
    · exact I.cne y a e z
    · obtain ⟨_, o, ho, _⟩ := funs_mem I.ok.funs z
      have := I.ok.cab y a (hfn y) e
      exact absurd (Nat.lt_of_lt_of_le (Heap.lt_size ho) this) (Nat.lt_irrefl _)
  have nf : f ∉ frs X.stack := fun z => by
    obtain ⟨_, o, ho, _⟩ := funs_mem I.stack z
    exact absurd (Nat.lt_of_lt_of_le (Heap.lt_size ho) fz) (Nat.lt_irrefl _)
  refine wpAny_call (codeAny_mono (hC.2 X.A X.stack s' H' f c' oc N _ scope _ params body pm ctv vs tb Q hr I'.env0 hf hf0 nf hc' hoc C nc lo (fun A' outer' s2 H2 E' hr' => hb f c' _ A' outer' s2 H2 E' hr') (h H' hT' old)) fun r s2 hq => ?_)
  cases r with
  | error e => exact False.elim hq
  | ok fl =>
    cases fl with
    | ret u => exact I'.after hq
    | next => exact False.elim hq
    | brk => exact False.elim hq
    | cont => exact False.elim hq
end L2
namespace L2
open PySem PySem.Spec PyProof.Rows PySem.W
noncomputable def OnlyL (H : Hp) (P : Addr) : Prop := ∀ b, H b = none ∨ (∃ o xs, H b = some (.frz o (.lst xs))) ∨ b = P
theorem law_callL {P : Program} {w : World} {K : PySem.W.Frag} {mg mb : Str → Option Value} {CX : CXT} {k : Nat} {fa a c T : Addr} {fd : FuncData} {x : Str} {sp : Sp} {s₁ : Shared} {vs : List Value} {ns : List Int}
    (KX : K.In s₁.heap) (hns : s₁.heap.Ns mainGlobals mg) (hb : s₁.heap.Ns builtinsNs mb) (hbb : ∀ x : Str, x ≠ "__name__" → mb x = bootBuiltins x) (hlim : s₁.heap.NoLimit) (hg : s₁.gens = #[])
    (ha : s₁.heap.get? a = some { cls := .type "list", data := .seq vs.toArray }) (hi : IntsAre vs ns) (hl : ns.length ≤ sizeLine) (hr : Room k callerA)
    (hT : s₁.heap.get? T = some (tabObj #[])) (hC : CodeHd s₁.heap c T) (hKT : K.lookup T = none) (hTs : T ≠ cStatics) (hB : s₁.heap.BuiltinsAt mg T)
    (F : ∀ base : Heap, K.In base → base.Ns mainGlobals mg → CodeHd base c T → base.BuiltinsAt mg T → FnOk P w K mg base CX k fa fd [x] sp) (hbind : ∀ (s : Shared) (u : Value), BindsTo s fd ⟨[u], []⟩ [(x, u)])
    (hsp : ∀ H : Hp, OnlyL H T → H T = some (.tbl #[]) → SqL K H a (ns.map V.int) → sp [.ref a] H (fun v _ => v = .bl true) fun _ _ _ => False)
    (hCX : ∀ H e s', CX [] H s₁ (fun _ _ _ => False) e s' → False) :
    codeAny (model P w) callerA (.call (.ref fa) ⟨[.ref a], []⟩) (fun r s' => r = .ok (.ret (.bool true)) ∧ OldK s₁.heap s'.heap ∧ s'.os = s₁.os ∧ AllBare s'.gens) s₁ := by
  have rv := vals_ints hi
  have naT : a ≠ T := fun z => by rw [z, hT] at ha; cases ha
  have core : ∀ H : Hp, OnlyL H T → H T = some (.tbl #[]) → SqL K H a (ns.map V.int) → HOk P w H s₁.heap → (∀ b, H b ≠ none → b = a ∨ b = T) → (H a ≠ none → K.lookup a = none) →
      codeAny (model P w) callerA (.call (.ref fa) ⟨[.ref a], []⟩) (fun r s' => r = .ok (.ret (.bool true)) ∧ OldK s₁.heap s'.heap ∧ s'.os = s₁.os ∧ AllBare s'.gens) s₁ := by
    intro H hO hHT hS hok hA hK
    have free : ∀ {b : Addr} {o : Obj}, s₁.heap.get? b = some o → (∀ ws n, o.data ≠ .seq ws n) → (∀ ws, o.data ≠ .fields ws ∨ o.cls ≠ .none) → H b = none := fun {b o} e n1 n2 => by
      cases q : H b with
      | none => rfl
      | some u =>
        rcases hA b (by rw [q]; simp) with z | z
        · rw [z, ha] at e; cases e; exact absurd rfl (n1 _ _)
        · rw [z, hT] at e; cases e
          rcases n2 #[] with z | z
          · exact absurd rfl z
          · exact absurd rfl z
    have nsK : ∀ {b : Addr} {m : Str → Option Value}, s₁.heap.Ns b m → (hidT s₁.heap H).Ns b m := fun {b m} ⟨o, es, ep, e, d, r⟩ => ⟨o, es, ep, hidT_get e (free e (fun ws n => by rw [d]; simp) fun ws => .inl (by rw [d]; simp)), d, r⟩
    have hKb : K.In (hidT s₁.heap H) := fun b o e => hidT_get (KX b o e) (by
      cases q : H b with
      | none => rfl
      | some u =>
        rcases hA b (by rw [q]; simp) with z | z
        · subst z; rw [hK (by rw [q]; simp)] at e; cases e
        · subst z; rw [hKT] at e; cases e)
    have hM : Mod K mg (hidT s₁.heap H) := ⟨hKb, nsK hns, ⟨mb, nsK hb, hbb⟩, let ⟨mc, h1, h2⟩ := hlim; ⟨mc, nsK h1, h2⟩⟩
    have e0 : Env0 P w K mg (hidT s₁.heap H) callerA [] s₁ H := ⟨rfl, hM, fun b o e => of_hidT e, Nat.le_of_eq (hidT_size _ _), trivial, fun b hb => absurd (show b ∈ ([] : List Addr) from hb) (by simp), hok, .of_eq hg⟩
    have hC' : CodeHd (hidT s₁.heap H) c T := by
      obtain ⟨o, us, file, tf, flags, tg, inF, text, tt, e1, r1, r2, r⟩ := hC
      exact ⟨o, us, file, tf, flags, tg, inF, text, tt, hidT_get e1 (free e1 (fun ws n => by rw [r2]; simp) fun ws => .inr (by rw [r1]; simp)), r1, r2, r⟩
    have hB' : (hidT s₁.heap H).BuiltinsAt mg T := by
      obtain ⟨bm, o, a1, a2, a3, a4, a5, a6, a7, a8⟩ := hB
      exact ⟨bm, o, a1, a2, a3, a4, hidT_get a5 (free a5 (fun ws n => by rw [a8]; simp) fun ws => .inl (by rw [a8]; simp)), a6, a7, a8⟩
    refine codeAny_mono ((F _ hKb (nsK hns) hC' hB').run callerA [] s₁ H ⟨[.ref a], []⟩ [.ref a] [.ref a] _ _ hr e0 (hbind s₁ (.ref a)) (.cons rfl .nil) (hsp H hO hHT hS)) fun r s' h => ?_
    match r, h with
    | .error e, h => exact (hCX H e s' h).elim
    | .ok .next, h => exact False.elim h
    | .ok .brk, h => exact False.elim h
    | .ok .cont, h => exact False.elim h
    | .ok (.ret u), ⟨v, H', os, bare, un, hok', r', q⟩ =>
      have q' : v = .bl true := q
      subst q'
      obtain rfl : u = Value.bool true := r'
      have kept : ∀ b o, b ≠ T → s₁.heap.get? b = some o → s'.heap.get? b = some o := fun b o hb e => by
        cases q : H b with
        | none => exact un.keep b o e q (by intro z; exact absurd (show b ∈ ([] : List Addr) from z) (by simp)) (by simp)
        | some u =>
          rcases hO b with z | ⟨ob, xs, z⟩ | z
          · rw [q] at z; cases z
          · obtain ⟨e1, _⟩ := hok b _ z
            obtain ⟨e2, _⟩ := hok' b _ (un.frzs b ob _ z)
            rw [e] at e1; cases e1
            exact e2
          · exact absurd z hb
      obtain ⟨more, hT'⟩ := un.tbls T _ hHT
      have hT2 : s'.heap.get? T = some (tabObj (#[] ++ more)) := hok' T _ hT'
      refine ⟨rfl, ⟨fun b o e => ?_, fun b o e => ?_⟩, os, bare⟩
      · by_cases hb : b = T
        · subst hb
          rw [hT] at e
          cases e
          exact .inr (.inl ⟨(hC.tab hT).isCodeTable, rfl, #[], more, rfl, hT2⟩)
        · exact .inl (kept b o hb e)
      · by_cases hb : b = T
        · subst hb
          exact ⟨_, hT2⟩
        · exact ⟨o, kept b o hb e⟩
  cases hk : K.lookup a with
  | some o =>
    have e := KX a o hk
    rw [ha] at e
    cases e
    refine core (fun b => if b = T then some (.tbl #[]) else none) (fun b => ?_) (if_pos rfl) (.inr ⟨_, vs.toArray, _, hk, rfl, rfl, rfl, by rw [List.size_toArray, hi.length]; exact hl, by simpa using rv⟩) (fun b u z => ?_) (fun b z => ?_) fun z => absurd (if_neg naT) z
    · by_cases hb : b = T
      · exact .inr (.inr hb)
      · exact .inl (if_neg hb)
    · by_cases hb : b = T
      · have z' := (if_pos hb).symm.trans z
        cases z'
        subst hb
        exact hT
      · have z' := (if_neg hb).symm.trans z
        cases z'
    · by_cases hb : b = T
      · exact .inr hb
      · exact absurd (if_neg hb) z
  | none =>
    refine core (fun b => if b = T then some (.tbl #[]) else if b = a then some (.frz { cls := .type "list", data := .seq vs.toArray } (.lst (ns.map V.int))) else none) (fun b => ?_) (if_pos rfl) (.inl (.inr ⟨{ cls := .type "list", data := .seq vs.toArray }, (if_neg naT).trans (if_pos rfl)⟩)) (fun b u z => ?_) (fun b z => ?_) fun _ => hk
    · by_cases hb : b = T
      · exact .inr (.inr hb)
      · by_cases hb2 : b = a
        · exact .inr (.inl ⟨_, _, (if_neg hb).trans (if_pos hb2)⟩)
        · exact .inl ((if_neg hb).trans (if_neg hb2))
    · by_cases hb : b = T
      · have z' := (if_pos hb).symm.trans z
        cases z'
        subst hb
        exact hT
      · by_cases hb2 : b = a
        · have z' := ((if_neg hb).trans (if_pos hb2)).symm.trans z
          cases z'
          subst hb2
          exact ⟨ha, by rw [List.length_map]; exact hl, vs, _, rv, ha⟩
        · have z' := ((if_neg hb).trans (if_neg hb2)).symm.trans z
          cases z'
    · by_cases hb : b = T
      · exact .inr hb
      · by_cases hb2 : b = a
        · exact .inl hb2
        · exact absurd ((if_neg hb).trans (if_neg hb2)) z
theorem blt_at {p : Program} {loose : List Str} {mean : ExcName → Option Value} {mg mb : Str → Option Value} {h : Heap} {T : Addr} (t : Top p loose mean mg mb h) (hT : h.get? T = some (tabObj #[])) : h.BuiltinsAt mg T := by
  obtain ⟨bm, ob, b1, b2, b3, b4, b5, b6⟩ := t.bmain
  refine ⟨bm, ob, b1, b2, fun q => ?_, fun q => ?_, b3, b4, b5, b6⟩
  · obtain ⟨o, es, ep, e, hd, _⟩ := t.g
    rw [q, e] at b3; cases b3; rw [hd] at b6; cases b6
  · rw [q, hT] at b3; cases b3; cases b4
theorem walk_ofL {l : PySem.W.OpenLaw} {n k : Nat} {q : Program} {loose : List Str} {XP : (Str → Option Value) → Heap → Prop} {YP : World → Heap → Prop} {d : DefRec} {K : Params → PySem.W.Frag} {CX : World → CXT} {sp : World → Addr → Sp} {x : Str} {ts : List Addr}
    (hn : l.most = some n) (hn2 : n ≤ sizeLine) (hdf : d.params.defaults = []) (hr : Room k callerA)
    (hY : ∀ (w : World) (h : Heap), YP w h → (K w.params).In h) (hYt : ∀ (w : World) (h : Heap), YP w h → ∀ P ∈ ts, h.get? P = some (tabObj #[])) (hnt : ∀ w : World, noTabs (K w.params) = true)
    (F : ∀ (w : World) (mg : Str → Option Value) (fa : Addr) (h : Heap), (K w.params).In h → h.Ns mainGlobals mg → mg d.name = some (.ref fa) →
      ∃ (fd : FuncData) (c T : Addr), (∀ (s : Shared) (u : Value), BindsTo s fd ⟨[u], []⟩ [(x, u)]) ∧ T ∈ ts ∧ T ≠ cStatics ∧ (∀ h' : Heap, (K w.params).In h' → CodeHd h' c T) ∧
        ∀ base : Heap, (K w.params).In base → base.Ns mainGlobals mg → CodeHd base c T → base.BuiltinsAt mg T → FnOk l.prog w (K w.params) mg base (CX w) k fa fd [x] (sp w T))
    (hsp : ∀ (w : World) (H : Hp) (a T : Addr) (ns : List Int), ns.length ≤ n → OnlyL H T → H T = some (.tbl #[]) → SqL (K w.params) H a (ns.map V.int) → sp w T [.ref a] H (fun v _ => v = .bl true) fun _ _ _ => False)
    (hCX : ∀ (w : World) (H : Hp) (s : Shared) (e : Value) (s' : Shared), CX w [] H s (fun _ _ _ => False) e s' → False) :
    PySem.W.WalkO q loose XP YP l.row.toRowW d [] (fun f vs => PySem.call f vs) := by
  refine Att.attach_call hn hdf fun w s₀ s₁ mg mb fa o pm cd doc a vs ns G Y ho hd hcd hmg hobj hints hlen hg => ?_
  have KX := hY w _ Y
  obtain ⟨fd, c, T, hb, hm, hs, hC, hF⟩ := F w mg fa _ KX G.T.g hmg
  have hT := hYt w _ Y T hm
  have hK : (K w.params).lookup T = none := by
    cases e : (K w.params).lookup T with
    | none => rfl
    | some o =>
      have e2 := KX T o e
      rw [hT] at e2
      cases e2
      have h2 := List.all_eq_true.mp (hnt w) _ (mem_of_lookupK e)
      exact absurd (show false = true from h2) Bool.false_ne_true
  exact law_callL KX G.T.g G.T.b G.T.builtins G.T.nolimit hg hobj hints (Nat.le_trans hlen hn2) hr hT (hC _ KX) hK hs (blt_at G.T hT) hF hb (fun H hO h1 hS => hsp w H a T ns hlen hO h1 hS) fun H e s' => hCX w H s₁ e s'
theorem lam_start {H : Hp} {T : Addr} {qual : Str} (h : H T = some (.tbl #[])) : LamT H T qual := ⟨#[], h, trivial, fun _ _ z => by cases z⟩
section
variable {P : Program} {w : World} {K : PySem.W.Frag} {mg : Str → Option Value} {base : Heap}
theorem Fun.okL {x qual : Str} {st : Stmt} {f c : Addr} {fd : FuncData} {N ps : List Str} {k : Nat} {sp : Sp} (F : Fun K x qual st f fd) (hc : fd.code = .ref c) (S : FnScope N ps (defScope st)) (len : ∀ vs H Q E, sp vs H Q E → vs.length = ps.length)
    (hbody : ∀ (A : Around) (outer : List Env) (s : Shared) (H : Hp) (vs : List V) (Q : VK) (E : XK), Room k (A.deeper (envOfC qual (defScope st) s.heap.objs.size f (.ref c))) → sp vs H Q E →
      ∃ t, PSs (cxOf CX0 P w K mg base N qual (defScope st) f (.ref c) A outer s H E).nox (defBody st) t ∧ t { nx := fun _ H' => Q .non H', rt := Q } (start N vs) H) : FnOk P w K mg base CX0 (k + 1) f fd ps sp := by
  obtain ⟨oc, od, kV, doc, pm, an, cdv, ct, osl, rfl, lk, hcd⟩ := F.ex
  obtain rfl : cdv = .ref c := hc
  refine fn_of lk hcd S len fun A outer s H vs Q E hr hsp => ?_
  obtain ⟨t, h, q⟩ := hbody A outer s H vs Q E hr hsp
  exact ⟨t, h.nox, q⟩
set_option genInjectivity false in
structure ThAt (s : Shared) (H : Hp) (outer : List Env) (f c' : Addr) (oc : Obj) (N : List Str) (qual : Str) (scope : Scope) (cl : List (Str × Addr)) (params : Arguments) (body : Expr) (pm ctv : Value) (vs : List V) : Prop where
  hf : s.heap.get? f = some (kla_obj "<lambda>" qual params body scope cl pm c' ctv)
  hf0 : H f = none
  nf : f ∉ frs outer
  hc : H c' = some (exO c' oc)
  hoc : codeO qual oc
  C : ClOkL N scope cl s.heap H vs
  nc : ∀ x c, cl.lookup x = some c → c ∉ frs outer
  lo : LamOk params scope
theorem pe_th {X : Cx} {kb : Nat} {E : XK} {N : List Str} {qual : Str} {scope : Scope} {f c' : Addr} {oc : Obj} {cl : List (Str × Addr)} {params : Arguments} {body : Expr} {pm ctv : Value} {vs : List V} {o : Expr} {to : TE} {tb : XK → TE} {pos : Pos} (th : ThAt X.s₀ X.H₀ X.outer f c' oc N qual scope cl params body pm ctv vs)
    (ho : PE X o to) (hx : Passes (CXE X.prog X.w) X E) (hr : Room (kb + 1) X.A) (hex : X.ex = [])
    (hb : ∀ (A' : Around) (outer' : List Env) (s' : Shared) (H' : Hp) (E' : XK), Room kb (A'.deeper (envX qual scope s'.heap.objs.size f (.ref c') cl)) → PE (cxL X.prog X.w X.K X.mg X.base N qual scope f (.ref c') cl A' outer' s' H' E') body (tb E'))
    (ht : eval (.Call o [] [] pos) X.env = (do callWith pos (← eval o X.env) [] (backTo pos (starEach [] X.env)) (backToKw pos (keywordEach [] X.env))) := by rfl) :
    PE X (.Call o [] [] pos) (tThunk f c' oc vs to (tb E)) :=
  pe_thunk ho hx hr hex th.hf th.hf0 th.nf th.hoc th.C th.nc th.lo.kind th.lo.co th.lo.gen th.lo.cell (th.lo.bind _ _ _ _ _ _) (fun s' H' => hb _ _ s' H' _ (hr.deeper _)) ht
theorem Fun.caught {x qual y : Str} {st : Stmt} {fc : Addr} {fd : FuncData} {N : List Str} {kb : Nat} {sp : (XK → TE) → List V → Hp → VK → Prop} (F : Fun K x qual st fc fd) (B : Binds K fd [y] []) (S : FnScope N [y] (defScope st))
    (hbody : ∀ (cdv : Value) (A : Around) (outer : List Env) (s : Shared) (H : Hp) (f c' : Addr) (oc : Obj) (N' : List Str) (qual' : Str) (scope : Scope) (cl : List (Str × Addr)) (params : Arguments) (body : Expr) (pm ctv : Value) (vs : List V) (tb : XK → TE) (Q : VK), Room (kb + 1) (A.deeper (envOfC qual (defScope st) s.heap.objs.size fc cdv)) →
      ThAt s H outer f c' oc N' qual' scope cl params body pm ctv vs →
      (∀ (A' : Around) (outer' : List Env) (s' : Shared) (H' : Hp) (E' : XK), Room kb (A'.deeper (envX qual' scope s'.heap.objs.size f (.ref c') cl)) → PE (cxL P w K mg base N' qual' scope f (.ref c') cl A' outer' s' H' E') body (tb E')) → sp tb vs H Q →
      ∃ t, PSs (cxOf CX0 P w K mg base N qual (defScope st) fc cdv A outer s H E0).nox (defBody st) t ∧ t { nx := fun _ H' => Q .non H', rt := Q } (start N [.ref f]) H) : CaughtAt P w K mg base fc (kb + 2) kb sp := by
  obtain ⟨oc0, od, kV, doc, pm0, an, cdv, ct, osl, rfl, lk, hcd⟩ := F.ex
  refine ⟨F.kp, fun A outer s H f c' oc N' qual' scope cl params body pm ctv vs tb Q hr e0 hf hf0 nf hc hoc C nc lo hb h => ?_⟩
  obtain ⟨t, ht, hq⟩ := hbody cdv A outer s H f c' oc N' qual' scope cl params body pm ctv vs tb Q (hr.deeper _) ⟨hf, hf0, nf, hc, hoc, C, nc, lo⟩ hb h
  have kin := e0.mod.kin.keeps fun b o e => (e0.bs b o e).1
  exact fn_run (us := [.ref f]) (vs := [.ref f]) lk hcd S hr e0 (by have := B s [.ref f] kin rfl; simpa using this) (.cons rfl .nil) rfl ht.nox hq
end
theorem src_pairs {K : PySem.W.Frag} {H : Hp} {a : Addr} {xs : List V} {σ0 : St} {ps : List (V × V)} (h : SqL K H a xs) (hp : ∀ i, i < xs.length → ∃ b, xs.getD i .non = .ref b ∧ H b = some (.tup [(ps.getD i (.non, .non)).1, (ps.getD i (.non, .non)).2])) (h0 : σ0[0]? = some none) (h1 : σ0[1]? = some none) :
    SrcOk (Itl K a) (gTup K 2 (gCons (gName 0) (gCons (gName 1) gNil))) σ0 H xs.length (fun i => (σ0.set 0 (some (ps.getD i (.non, .non)).1)).set 1 (some (ps.getD i (.non, .non)).2)) where
  go := fun i H' hi s => ⟨xs, xs[i], s.seq h, by simp [hi]⟩
  stop := fun H' s => ⟨xs, s.seq h, Nat.le_refl _⟩
  yld := fun i H' x H'' R hi s y k => by
    obtain ⟨e, hv⟩ := y
    subst e
    have e : x = xs.getD i .non := by
      have := hv xs (s.seq h)
      rw [List.getD_eq_getElem?_getD, this]
      rfl
    subst e
    obtain ⟨b, eb, hb⟩ := hp i hi
    rw [eb]
    exact ⟨b, _, rfl, SqT.of (s _ _ hb), rfl, _, _, rfl, _, _, rfl, rfl, k _ (Same.refl _)⟩
  kp := fun i hi => ((Kp.refl _).set h0).set h1
end L2
namespace L2
open PySem PySem.Spec PyProof.Rows PySem.W
noncomputable def isFree : NameKind → Bool | .free => true | _ => false
noncomputable def isCell : NameKind → Bool | .cell => true | _ => false
noncomputable def isCellO : Option NameKind → Bool | some .cell => true | _ => false
noncomputable def isFreeO : Option NameKind → Bool | some .free => true | _ => false
noncomputable def lamChk (N : List Str) (idx : List Nat) (sc : List (Str × NameKind)) (XN : List Str) (Xsc : List (Str × NameKind)) : Bool :=
  sc.all (fun y => !(isCell y.2) && (!(isFree y.2) || isCellO (Xsc.lookup y.1))) && (N.length == idx.length) && (N.zip idx).all fun p => (XN[p.2]? == some p.1) && isFreeO (sc.lookup p.1) && isCellO (Xsc.lookup p.1)
theorem lookup_mem {α : Type} {x : Str} {v : α} : ∀ {l : List (Str × α)}, l.lookup x = some v → (x, v) ∈ l
  | (y, u) :: l, h => by
    rw [List.lookup_cons] at h
    cases e : x == y with
    | true =>
      rw [e] at h
      cases h
      rw [eq_of_beq e]
      exact List.mem_cons_self
    | false =>
      rw [e] at h
      exact List.mem_cons_of_mem _ (lookup_mem h)
theorem isFreeO_eq {k : Option NameKind} (h : isFreeO k = true) : k = some .free := by
  unfold isFreeO at h
  split at h
  · rfl
  · cases h
theorem isCellO_eq {k : Option NameKind} (h : isCellO k = true) : k = some .cell := by
  unfold isCellO at h
  split at h
  · rfl
  · cases h
theorem chk_cell {N : List Str} {idx : List Nat} {sc : List (Str × NameKind)} {XN : List Str} {Xsc : List (Str × NameKind)} (h : lamChk N idx sc XN Xsc = true) : ∀ y ∈ sc, y.2 ≠ .cell := fun y hy e => by
  simp only [lamChk, Bool.and_eq_true, List.all_eq_true] at h
  have := (h.1.1 y hy).1
  rw [e] at this
  cases this
theorem chk_free {N : List Str} {idx : List Nat} {sc : List (Str × NameKind)} {XN : List Str} {Xsc : List (Str × NameKind)} (h : lamChk N idx sc XN Xsc = true) : ∀ y ∈ sc, y.2 = .free → Xsc.lookup y.1 = some .cell := fun y hy e => by
  simp only [lamChk, Bool.and_eq_true, List.all_eq_true] at h
  have := (h.1.1 y hy).2
  rw [e] at this
  exact isCellO_eq (by simpa [isFree] using this)
theorem chk_len {N : List Str} {idx : List Nat} {sc : List (Str × NameKind)} {XN : List Str} {Xsc : List (Str × NameKind)} (h : lamChk N idx sc XN Xsc = true) : N.length = idx.length := by
  simp only [lamChk, Bool.and_eq_true] at h
  exact eq_of_beq h.1.2
theorem chk_N {N : List Str} {idx : List Nat} {sc : List (Str × NameKind)} {XN : List Str} {Xsc : List (Str × NameKind)} (h : lamChk N idx sc XN Xsc = true) (i : Nat) (y : Str) (hy : N[i]? = some y) : ∃ j, idx[i]? = some j ∧ XN[j]? = some y ∧ sc.lookup y = some .free ∧ Xsc.lookup y = some .cell := by
  have hl := chk_len h
  simp only [lamChk, Bool.and_eq_true, List.all_eq_true] at h
  obtain ⟨hi, e⟩ := List.getElem?_eq_some_iff.mp hy
  have hi2 : i < idx.length := by (first | assumption | decide | omega)
  have hm : (y, idx[i]) ∈ N.zip idx := by
    refine List.mem_iff_getElem.mpr ⟨i, by rw [List.length_zip]; omega, ?_⟩
    rw [List.getElem_zip, e]
  obtain ⟨⟨h1, h2⟩, h3⟩ := h.2 _ hm
  exact ⟨idx[i], by simp [hi2], eq_of_beq h1, isFreeO_eq h2, isCellO_eq h3⟩
noncomputable def CaughtF (P : Program) (w : World) (K : PySem.W.Frag) (mg : Str → Option Value) (base : Heap) (x : Str) (k kb : Nat) (sp : (XK → TE) → List V → Hp → VK → Prop) : Prop := ∃ fc, mg x = some (.ref fc) ∧ CaughtAt P w K mg base fc k kb sp
theorem DefAt.caught {P : Program} {w : World} {K : PySem.W.Frag} {mg : Str → Option Value} {base : Heap} {x : Str} {st : Stmt} {ps : List Str} {f : Addr} {fd : FuncData} {k kb : Nat} {sp : (XK → TE) → List V → Hp → VK → Prop} (d : DefAt K mg x st ps f fd)
    (F : CaughtAt P w K mg base f k kb sp) : CaughtF P w K mg base x k kb sp := ⟨f, d.at', F⟩
theorem pe_caughtF {X : Cx} {x : Str} {c P : Addr} {k kb : Nat} {sp : (XK → TE) → List V → Hp → VK → Prop} {params : Arguments} {body : Expr} {scope : Scope} {p lpos pos : Pos} {tb : XK → TE}
    (hC : CaughtF X.prog X.w X.K X.mg X.base x k kb sp) (hr : Room k X.A) (L : LamX X c P) (N : List Str) (idx : List Nat)
    (hb : ∀ (f c' : Addr) (cl : List (Str × Addr)) (A' : Around) (outer' : List Env) (s' : Shared) (H' : Hp) (E' : XK), Room kb (A'.deeper (envX (X.env.qual ++ "<lambda>") scope s'.heap.objs.size f (.ref c') cl)) → PE (cxL X.prog X.w X.K X.mg X.base N (X.env.qual ++ "<lambda>") scope f (.ref c') cl A' outer' s' H' E') body (tb E'))
    (hchk : lamChk N idx scope.names X.N X.env.scope.names = true) (hst : X.stack = X.env :: X.outer := by rfl) (hfm : X.env.frame = some X.env.locals := by rfl) (hfn : ∀ y, X.fn y = true := by intro _; rfl)
    (hk : scope.kind = .function := by rfl) (hco : scope.isCoroutine = false := by rfl) (hgen : scope.isGenerator = false := by rfl) (hbd : ∀ (qual : Str) (body : Expr) (cl : List (Str × Addr)) (pm cdv ctv : Value), bindArgs (kla_fn "<lambda>" qual params body scope cl pm cdv ctv) ⟨[], []⟩ = pure [] := by intros; rfl)
    (hdef : defaultsOf params X.env = ([], []) := by rfl) (hg : Gl X x := by rfl) (hdb : (x == ("__debug__" : Str)) = false := by decide) (he : starEach [.Lambda params body scope lpos] X.env = (false, eval (.Lambda params body scope lpos) X.env) :: starEach [] X.env := by rfl) :
    PE X (.Call (.Name x p) [.Lambda params body scope lpos] [] pos) (tCaught P (X.env.qual ++ "<lambda>") idx sp tb) := by
  obtain ⟨fc, hm, hA⟩ := hC
  refine pe_caught hm hA hr L hst hfm hfn ⟨hk, hco, hgen, chk_cell hchk, hbd⟩ hdef (chk_free hchk) (fun y hy => ?_) (chk_len hchk) (chk_N hchk) hb hg hdb he
  rcases hy with hy | hy
  · exact absurd rfl (chk_cell hchk _ (lookup_mem hy))
  · exact lookup_mem hy
noncomputable def bar (T : Addr) (H : Hp) : Hp := fun b => if b = T then none else H b
theorem bar_some {T : Addr} {H : Hp} {b : Addr} {o u : HO} (h : H b = some o) (hT : H T = some u) (n : u ≠ o) : bar T H b = some o := by
  refine (if_neg fun z => ?_).trans h
  rw [z, hT] at h
  cases h
  exact n rfl
theorem bar_same {T : Addr} {H : Hp} : Same (bar T H) H := fun b o e => by
  by_cases hb : b = T
  · have e' := (if_pos hb).symm.trans e
    cases e'
  · exact (if_neg hb).symm.trans e
theorem LamT.same {H H' : Hp} {T : Addr} {q : Str} (h : LamT H T q) (s : Same H H') : LamT H' T q := by
  obtain ⟨ps, h1, h2, h3⟩ := h
  refine ⟨ps, s _ _ h1, h2, fun p cv e => ?_⟩
  obtain ⟨c', oc, e1, e2, e3⟩ := h3 p cv e
  exact ⟨c', oc, e1, s _ _ e2, e3⟩
theorem rd_caught {T : Addr} {q : Str} {idx : List Nat} {sp : (XK → TE) → List V → Hp → VK → Prop} {tb : XK → TE} {σ : St} {H : Hp} {Q : VK} (hT : LamT H T q) (vs : List V) (hl : vs.length = idx.length) (hv : ∀ (i j : Nat), idx[i]? = some j → ∃ v, vs[i]? = some v ∧ σ[j]? = some (some v))
    (k : ∀ H', LamT H' T q → (∀ b o, b ≠ T → H b = some o → H' b = some o) → sp tb vs H' Q) : tCaught T q idx sp tb σ H Q := ⟨hT, vs, hl, hv, k⟩
theorem rd_thunk {f c' : Addr} {oc : Obj} {vs : List V} {to tb : TE} {σ : St} {H : Hp} {Q : VK} (h : to σ H fun v H1 => v = .ref f ∧ H1 c' = some (exO c' oc) ∧ tb (vs.map some) H1 Q) : tThunk f c' oc vs to tb σ H Q := h
end L2
namespace L2
open PySem PySem.Spec PyProof.Rows
theorem step_pick {its : List Value} {L m k : Nat} (hl : its.length = L * m) (hk : k < m) : slicePick its.toArray (some (k : Int)) none (some (m : Int)) = ((List.range L).map fun i => its.getD (k + m * i) .none).toArray := by
  unfold slicePick
  have hm : (m : Int) > 0 := by (first | assumption | decide | omega)
  have hb : sliceBounds (some (k : Int)) none (some (m : Int)) its.toArray.size = (max 0 (min (k : Int) (its.length : Nat)), ((its.length : Nat) : Int), (m : Int)) := by
    simp only [sliceBounds, Option.getD_some, hm, if_true, List.size_toArray, show ¬ ((k : Int) < 0) by (first | assumption | decide | omega), if_false]
  rw [hb]
  congr 1
  simp only []
  by_cases hL : L = 0
  · subst hL
    have h0 : its.length = 0 := by rw [hl, Nat.zero_mul]
    unfold sliceRange
    simp [h0]
  · have h1 : m ≤ L * m := Nat.le_mul_of_pos_left m (by (first | assumption | decide | omega))
    have e0 : max 0 (min (k : Int) (its.length : Nat)) = (k : Int) := by (first | assumption | decide | omega)
    rw [e0]
    unfold sliceRange
    have hlt : (k : Int) < ((its.length : Nat) : Int) := by (first | assumption | decide | omega)
    have hc : (((its.length : Nat) : Int) - (k : Int) + (m : Int) - 1) / (m : Int) = (L : Nat) := by
      rw [hl]
      have e : (((L * m : Nat) : Int) - (k : Int) + (m : Int) - 1) = ((m - 1 - k : Nat) : Int) + (m : Int) * (L : Nat) := by
        push_cast
        rw [Int.mul_comm (m : Int) (L : Int)]
        first | assumption | decide | omega
      rw [e, Int.add_mul_ediv_left _ _ (by (first | assumption | decide | omega)), Int.ediv_eq_zero_of_lt (by (first | assumption | decide | omega)) (by (first | assumption | decide | omega))]
      first | assumption | decide | omega
    simp only [hm, if_true, hlt, hc, Int.toNat_natCast]
    rw [List.filterMap_map]
    rw [show (List.range L).map (fun i => its.getD (k + m * i) .none) = (List.range L).filterMap (fun i => some (its.getD (k + m * i) .none)) by rw [← List.filterMap_eq_map]; rfl]
    have fc : ∀ (l : List Nat) (f g : Nat → Option Value), (∀ i ∈ l, f i = g i) → l.filterMap f = l.filterMap g := fun l f g => by
      induction l with
      | nil => intro _; rfl
      | cons a l ih =>
        intro h
        rw [List.filterMap_cons, List.filterMap_cons, h a List.mem_cons_self, ih fun i hi => h i (List.mem_cons_of_mem _ hi)]
    refine fc _ _ _ fun i hi => ?_
    have hi := List.mem_range.mp hi
    have hb : k + m * i < its.length := by
      rw [hl]
      have : m * (i + 1) ≤ m * L := Nat.mul_le_mul_left m hi
      rw [Nat.mul_add, Nat.mul_one, Nat.mul_comm m L] at this
      first | assumption | decide | omega
    show its.toArray[((k : Int) + (m : Int) * ((i : Nat) : Int)).toNat]? = _
    rw [show ((k : Int) + (m : Int) * ((i : Nat) : Int)).toNat = k + m * i by
      have : ((m : Int) * ((i : Nat) : Int)) = ((m * i : Nat) : Int) := by push_cast; rfl
      rw [this]
      omega]
    rw [List.getElem?_toArray, List.getD_eq_getElem?_getD, List.getElem?_eq_getElem hb]
    rfl
theorem vals_pick {xs : List V} {us : List Value} (r : Vals xs us) {f : Nat → Nat} : ∀ (js : List Nat), (∀ j ∈ js, f j < xs.length) → Vals (js.map fun i => xs.getD (f i) .non) (js.map fun i => us.getD (f i) .none)
  | [], _ => .nil
  | j :: js, h => by
    refine .cons ?_ (vals_pick r js fun i hi => h i (List.mem_cons_of_mem _ hi))
    have hj := h j List.mem_cons_self
    have hj2 : f j < us.length := by rw [← r.length]; exact hj
    show RelV (xs.getD (f j) .non) (us.getD (f j) .none)
    rw [List.getD_eq_getElem?_getD, List.getD_eq_getElem?_getD, List.getElem?_eq_getElem hj, List.getElem?_eq_getElem hj2]
    obtain ⟨u, e1, e2⟩ := Vals.get (i := f j) r (List.getElem?_eq_getElem hj)
    rw [List.getElem?_eq_getElem hj2] at e1
    cases e1
    exact e2
noncomputable def tStep (K : PySem.W.Frag) (te tl ts : TE) : TE := fun σ H Q => te σ H fun x H1 => tl σ H1 fun y H2 => ts σ H2 fun z H3 => ∃ a xs L m k, x = .ref a ∧ y = .int ((k : Nat) : Int) ∧ z = .int ((m : Nat) : Int) ∧ SqL K H3 a xs ∧ xs.length = L * m ∧ k < m ∧
  ∀ q, H3 q = none → Q (.ref q) (upd H3 q (.lst ((List.range L).map fun i => xs.getD (k + m * i) .non)))
section
variable {X : Cx} {K : PySem.W.Frag} {e lo st : Expr} {te tl ts : TE} {pos p2 : Pos}
theorem pe_step (he : PE X e te) (hlo : PE X lo tl) (hst : PE X st ts) (hK : X.K = K := by rfl) : PE X (.Subscript e (.Slice (some lo) none (some st) p2) pos) (tStep K te tl ts) := by
  subst hK
  intro pins s σ H Q I h
  refine Subscript_ (thn (he pins s σ H _ I h) fun v s1 zPt => ?_)
  obtain ⟨x, H1, I1, r1, q1⟩ := zPt
  refine wpAny_Slice ?_
  rw [evalPart_some]
  refine thn (hlo _ s1 σ H1 _ I1 q1) fun ul s2 zPt => ?_
  obtain ⟨y, H2, I2, r2, q2⟩ := zPt
  rw [evalPart_none]
  refine wpAny_pure ?_
  rw [evalPart_some]
  refine thn (hst _ s2 σ H2 _ I2 q2) fun u s3 zPt => ?_
  obtain ⟨z, H3, I3, r3, q3⟩ := zPt
  obtain ⟨a, xs, L, m, k, rfl, rfl, rfl, hx, hl, hk, q⟩ := q3
  obtain ⟨t, rfl⟩ := r2
  obtain ⟨t3, rfl⟩ := r3
  cases r1
  have I4 : Inv X pins σ H3 { s3 with heap := s3.heap.push { cls := .type "slice", data := .fields #[.int (k : Nat) t, .none, .int (m : Nat) t3] } } := I3.kept (t' := s3.toks) fun b ob q => Heap.get?_push_of_some _ q
  obtain ⟨its, r, ht, hz⟩ := I4.list hx
  have hlen := r.length
  show wpAny (model X.prog X.w) X.A (subscriptTail e (.Slice (some lo) none (some st) p2) (.ref a) (.ref s3.heap.objs.size)) (EP X pins σ Q) X.xe { s3 with heap := s3.heap.push { cls := .type "slice", data := .fields #[.int (k : Nat) t, .none, .int (m : Nat) t3] } }
  refine tail_any (ops := [.ref a, .ref s3.heap.objs.size]) ht.isList.typeIs slot_list_getitem.lookup ?_ (by with_unfolding_all rfl)
  refine wpAny_getItem_list_slice (lo := some (k : Nat)) (hi := none) (st := some (m : Nat)) ht.isList (Heap.IsSliceOf.new ..) (.int _ t) .none (.int _ t3) (fun z => by have := Option.some.inj z; omega) ?_ (by rw [List.size_toArray] <;> omega)
  rw [step_pick (by rw [← hlen]; exact hl) hk]
  refine ⟨.ref _, _, I4.laid (t' := s3.toks) (o := .lst ((List.range L).map fun i => xs.getD (k + m * i) .non)) (fun b ob q => Heap.get?_push_of_some _ q) (Nat.le_refl _) ?_, rfl, q _ (I4.hok.fresh (Nat.le_refl _))⟩
  have bnd : ∀ j ∈ List.range L, k + m * j < xs.length := fun j hj => by
    have hj := List.mem_range.mp hj
    rw [hl]
    have : m * (j + 1) ≤ m * L := Nat.mul_le_mul_left m hj
    rw [Nat.mul_add, Nat.mul_one, Nat.mul_comm m L] at this
    first | assumption | decide | omega
  refine ⟨?_, _, 0, vals_pick r (f := fun i => k + m * i) (List.range L) bnd, Heap.get?_push_size _ rfl⟩
  rw [List.length_map, List.length_range]
  have : L ≤ L * m := Nat.le_mul_of_pos_right L (by (first | assumption | decide | omega))
  first | assumption | decide | omega
end
theorem rd_step {K : PySem.W.Frag} {te tl ts : TE} {σ : St} {H : Hp} {Q : VK} (h : te σ H fun x H1 => tl σ H1 fun y H2 => ts σ H2 fun z H3 => ∃ a xs L m k, x = .ref a ∧ y = .int ((k : Nat) : Int) ∧ z = .int ((m : Nat) : Int) ∧ SqL K H3 a xs ∧ xs.length = L * m ∧ k < m ∧
  ∀ q, H3 q = none → Q (.ref q) (upd H3 q (.lst ((List.range L).map fun i => xs.getD (k + m * i) .non)))) : tStep K te tl ts σ H Q := h
section
variable {J : It} {g : TG} {σ0 : St} {H : Hp} {n : Nat} {st : Nat → St} {te : TE} {Q : VK} {D : Addr}
theorem comp_any {Pv : Nat → V → Hp → Prop} (S : SrcOk J g σ0 H n st) (hD : H D = none) (hn : n ≤ 100000) (stab : ∀ i y H1 H2, Pv i y H1 → Same H1 H2 → Pv i y H2) (off : ∀ i y H1 ys o, Same H H1 → Pv i y H1 → H1 D = some (.lst ys) → Pv i y (upd H1 D o))
    (he : ∀ i H' (R : VK), i < n → Same H H' → (∃ ys, H' D = some (.lst ys)) → (∀ H3 y, Same H' H3 → Pv i y H3 → R y H3) → te (st i) H' R)
    (hd : ∀ H' ys, Same H H' → H' D = some (.lst ys) → ys.length = n → (∀ i y, ys[i]? = some y → Pv i y H') → Q (.ref D) H') :
    CompW J σ0 g tYes te Q H D := by
  refine ⟨fun i k ys H' => k = n - i ∧ i ≤ n ∧ Same H H' ∧ H' D = some (.lst ys) ∧ ys.length = i ∧ ∀ (j : Nat) (y : V), ys[j]? = some y → Pv j y H', ⟨_, rfl, Nat.zero_le _, same_at (Same.refl _) hD, upd_same, rfl, fun j y q => by simp at q⟩, ?_⟩
  rintro i k ys H1 ⟨rfl, hi, s1, hl, len, el⟩
  by_cases hlt : i < n
  · refine .inr ⟨S.go i H1 hlt s1, fun ys' H' => Same H H' ∧ H' D = some (.lst ys') ∧ ys'.length = i + 1 ∧ ∀ (j : Nat) (y : V), ys'[j]? = some y → Pv j y H', fun ys' H' q => ⟨n - (i + 1), by (first | assumption | decide | omega), rfl, hlt, q⟩, fun x H2 y => ?_⟩
    refine S.yld i H1 x H2 _ hlt s1 y fun H3 s3 => ⟨S.kp i hlt, ?_⟩
    unfold tYes
    refine iteT ?_
    have hl3 : H3 D = some (.lst ys) := s3 _ _ hl
    refine he i H3 _ hlt (s1.trans s3) ⟨ys, hl3⟩ fun H5 y s5 py => ?_
    have hl5 : H5 D = some (.lst ys) := s5 _ _ hl3
    have s15 := s1.trans (s3.trans s5)
    refine ⟨hl5, ?_, ?_, upd_same, ?_, ?_⟩
    · exact Nat.lt_of_le_of_lt (by (first | assumption | decide | omega) : ys.length ≤ 100000) (by decide)
    · exact same_at s15 hD
    · rw [List.length_append, len]
      rfl
    · intro j z h1
      by_cases hj : j < ys.length
      · rw [List.getElem?_append_left hj] at h1
        exact off j z H5 ys _ s15 (stab j z H1 H5 (el j z h1) (s3.trans s5)) hl5
      · have ej : j = ys.length := by
          have := (List.getElem?_eq_some_iff.mp h1).1
          rw [List.length_append] at this
          have : ([y] : List V).length = 1 := rfl
          first | assumption | decide | omega
        subst ej
        rw [List.getElem?_append_right (Nat.le_refl _), Nat.sub_self] at h1
        cases h1
        rw [len]
        exact off i _ H5 ys _ s15 py hl5
  · have e : i = n := by (first | assumption | decide | omega)
    subst e
    exact .inl ⟨S.stop H1 s1, hd H1 ys s1 hl len el⟩
end
end L2
open L2
namespace K27
open PySem L2 PySem.Spec PyProof.Rows
seal L2.PE L2.PT L2.PW L2.PA L2.PS L2.PSs L2.PI L2.PG L2.PTs L2.PGs
section
variable {P : Program} {w : World} {K : PySem.W.Frag} {mg : Str → Option Value} {base : Heap}
noncomputable def top (i : Nat) : Stmt := PySem.Challenge.pw_loomwright_k27_whole_woven_at_once.main.body.getD i (.Pass ⟨0, 0, 0, 0⟩)
set_option genInjectivity false in
structure Cs where
  Cloth : Addr
  LoomError : Addr
  BadRow : Addr
  BadWord : Addr
  TooMany : Addr
  NotPlain : Addr
  NotGrown : Addr
  BadDraft : Addr
  BadCloth : Addr
  OutOfPlace : Addr
set_option genInjectivity false in
structure Txt (K : PySem.W.Frag) (mg : Str → Option Value) (c : Cs) : Prop where
  own : Own mg ["isinstance", "int", "bool", "list", "tuple", "len", "all", "range", "sum", "enumerate", "min", "max", "ValueError"]
  g_Cloth : mg "Cloth" = some (.ref c.Cloth)
  kd_Cloth : Kind K c.Cloth
  is_Cloth : PySem.W.kitOne K (.ref c.Cloth) (.ref c.Cloth) = some true
  na_Cloth_width : NoAttr K c.Cloth "width"
  na_Cloth_rows : NoAttr K c.Cloth "rows"
  g_LoomError : mg "LoomError" = some (.ref c.LoomError)
  g_BadRow : mg "BadRow" = some (.ref c.BadRow)
  g_BadWord : mg "BadWord" = some (.ref c.BadWord)
  g_TooMany : mg "TooMany" = some (.ref c.TooMany)
  g_NotPlain : mg "NotPlain" = some (.ref c.NotPlain)
  g_NotGrown : mg "NotGrown" = some (.ref c.NotGrown)
  g_BadDraft : mg "BadDraft" = some (.ref c.BadDraft)
  g_BadCloth : mg "BadCloth" = some (.ref c.BadCloth)
  xk_BadCloth : HT.ExcKind K c.BadCloth
  xi_BadCloth : PySem.W.excIn K c.BadCloth [.type "ValueError", .type "Exception", .type "BaseException", .type "object"] "ValueError.__new__" = true
  xm_BadCloth_LoomError : PySem.W.exmOne K (.ref c.BadCloth) (.ref c.LoomError) = some true
  ki_BadCloth_BadRow : PySem.W.kitOne K (.ref c.BadCloth) (.ref c.BadRow) = some false
  ki_BadCloth_BadWord : PySem.W.kitOne K (.ref c.BadCloth) (.ref c.BadWord) = some false
  ki_BadCloth_TooMany : PySem.W.kitOne K (.ref c.BadCloth) (.ref c.TooMany) = some false
  ki_BadCloth_NotPlain : PySem.W.kitOne K (.ref c.BadCloth) (.ref c.NotPlain) = some false
  ki_BadCloth_NotGrown : PySem.W.kitOne K (.ref c.BadCloth) (.ref c.NotGrown) = some false
  ki_BadCloth_BadDraft : PySem.W.kitOne K (.ref c.BadCloth) (.ref c.BadDraft) = some false
  ki_BadCloth_BadCloth : PySem.W.kitOne K (.ref c.BadCloth) (.ref c.BadCloth) = some true
  ki_BadCloth_OutOfPlace : PySem.W.kitOne K (.ref c.BadCloth) (.ref c.OutOfPlace) = some false
  ki_BadCloth_ValueError : PySem.W.kitOne K (.ref c.BadCloth) (.type "ValueError") = some true
  g_OutOfPlace : mg "OutOfPlace" = some (.ref c.OutOfPlace)
  k_MOST_ENDS : ∃ t, mg "MOST_ENDS" = some (.int 60 t)
  k_MOST_PICKS : ∃ t, mg "MOST_PICKS" = some (.int 60 t)
noncomputable def spLawL (K : PySem.W.Frag) (TT : Addr) : Sp := fun vs H Q _ => ∃ (a : Addr) (ns : List Int), vs = [.ref a] ∧ SqL K H a (ns.map V.int) ∧ ns.length ≤ 63 ∧ H TT = some (.tbl #[]) ∧ ∀ H', Q (.bl true) H'
end
end K27
open L2
namespace K27
open PySem L2 PySem.Spec PyProof.Rows
seal L2.PE L2.PT L2.PW L2.PA L2.PS L2.PSs L2.PI L2.PG L2.PTs L2.PGs
section
variable {P : Program} {w : World} {K : PySem.W.Frag} {mg : Str → Option Value} {base : Heap} {c : Cs}
noncomputable def sp_bit_of : Sp := fun vs H Q _ => ∃ n : Nat, vs = [.int n] ∧ 1 ≤ n ∧ n ≤ 1000 ∧ Q (.int ((2 ^ (n - 1) : Nat) : Int)) H
noncomputable abbrev s_bit_of : Stmt := top 14
theorem sc_bit_of : FnScope ["number"] ["number"] (defScope s_bit_of) := ⟨rfl, rfl, rfl, by decide +kernel, rfl, by decide +kernel, by decide +kernel⟩
theorem ok_bit_of {f : Addr} {fd : FuncData} (F : Fun K "bit_of" "bit_of" s_bit_of f fd) (T : Txt K mg c) : FnOk P w K mg base CX0 1 f fd ["number"] sp_bit_of := by
  refine F.ok sc_bit_of (fun vs H Q E h => ?_) (fun cdv A outer s H vs Q E hr h => ?_)
  · obtain ⟨n, rfl, _⟩ := h
    rfl
  · obtain ⟨n, rfl, h1, h2, q⟩ := h
    refine ⟨_, (pss_one (ps_ret (pe_op op_shl pe_int (pe_op op_sub (pv 0) pe_int)))), ?_⟩
    (repeat (first | (with_reducible first | refine rd_c ?_ | refine rd_op ?_ | refine rd_rI0 ?_ | refine rd_ret ?_) | (((with_reducible apply rd_var); exact rfl))))
    refine rd_rI ⟨by (first | assumption | decide | omega), by (first | assumption | decide | omega), by decide⟩ ?_
    rw [show ((n : Int) - 1).toNat = n - 1 by (first | assumption | decide | omega), pow_cast]
    exact q
noncomputable def sp_mask_of (K : PySem.W.Frag) : Sp := fun vs H Q _ => ∃ tp a, ∃ ns : List Nat, vs = [.ref a] ∧ SqS tp K H a (ns.map nV) ∧ (∀ n ∈ ns, 1 ≤ n ∧ n ≤ 1000) ∧ ∀ H', Same H H' → Q (.int ((MM.mOf ns : Nat) : Int)) H'
noncomputable abbrev s_mask_of : Stmt := top 15
theorem sc_mask_of : FnScope ["numbers", "mask", "number"] ["numbers"] (defScope s_mask_of) := ⟨rfl, rfl, rfl, by decide +kernel, rfl, by decide +kernel, by decide +kernel⟩
theorem ok_mask_of {f : Addr} {fd : FuncData} (F : Fun K "mask_of" "mask_of" s_mask_of f fd) (T : Txt K mg c) (c_bit_of : CallF P w K mg base "bit_of" 1 ["number"] sp_bit_of) : FnOk P w K mg base CX0 2 f fd ["numbers"] (sp_mask_of K) := by
  refine F.ok sc_mask_of (fun vs H Q E h => ?_) (fun cdv A outer s H vs Q E hr h => ?_)
  · obtain ⟨tp, a, ns, rfl, _⟩ := h
    rfl
  · obtain ⟨tp, a, ns, rfl, sa, hn, q⟩ := h
    refine ⟨_, (pss_cons (ps_set (i := 1) sc_mask_of.nd rfl (Or.inl rfl) pe_int)
      (pss_cons (ps_for PassesOwn.never rfl (pi_sq (K := K) (pv 0)) (pg_name (i := 2) sc_mask_of.nd rfl (Or.inl rfl)) (pss_one (ps_aug (i := 1) sc_mask_of.nd rfl (Or.inl rfl) (pe_callF c_bit_of hr (pa_cons (pv 2) pa_nil)) iop_or)))
      (pss_one (ps_ret (pv 1))))), ?_⟩
    (repeat (first | (with_reducible first | refine rd_seq ?_ | refine rd_asg ?_ | refine rd_name ?_ | refine rd_c ?_ | refine rd_for ?_ | refine rd_iQ ?_) | (((with_reducible apply rd_var); exact rfl))))
    refine ⟨tp, a, rfl, ⟨_, sa⟩, for_src (fs_sq sa) (fun i σ H3 => ∃ x, σ = [some (.ref a), some (.int ((MM.mOf (ns.take i) : Nat) : Int)), x] ∧ Same H H3) ⟨_, rfl, Same.refl _⟩ (fun i σ H3 ⟨_, _, s⟩ => s) ?_ ?_⟩
    · rintro i σ H' H3 hi ⟨x, rfl, s'⟩ s3
      have hi' : i < ns.length := by simpa using hi
      have hm : ns.getD i 0 ∈ ns := by rw [List.getD_eq_getElem?_getD, List.getElem?_eq_getElem hi']; exact List.getElem_mem hi'
      rw [getD_nat hi]
      (skip)
      refine rd_aug rfl ?_
      (repeat (first | (with_reducible first | refine rd_nil ?_ | refine rd_cons ?_ | refine rd_call ?_) | (((with_reducible apply rd_var); exact rfl))))
      refine ⟨_, rfl, (hn _ hm).1, (hn _ hm).2, ?_⟩
      (repeat (first | (with_reducible refine rd_rI0 ?_)))
      rw [bO, ← MM.mOf_snoc, ← take_getD hi']
      exact ⟨_, rfl, s'.trans s3⟩
    · rintro σ H3 ⟨x, rfl, s3⟩
      (repeat (first | (with_reducible refine rd_ret ?_) | (((with_reducible apply rd_var); exact rfl))))
      rw [List.length_map, List.take_length]
      exact q H3 s3
noncomputable def sp_mask_to : Sp := fun vs H Q _ => ∃ n : Nat, vs = [.int n] ∧ n ≤ 1000 ∧ Q (.int ((2 ^ n - 1 : Nat) : Int)) H
noncomputable abbrev s_mask_to : Stmt := top 16
theorem sc_mask_to : FnScope ["most"] ["most"] (defScope s_mask_to) := ⟨rfl, rfl, rfl, by decide +kernel, rfl, by decide +kernel, by decide +kernel⟩
theorem ok_mask_to {f : Addr} {fd : FuncData} (F : Fun K "mask_to" "mask_to" s_mask_to f fd) (T : Txt K mg c) : FnOk P w K mg base CX0 1 f fd ["most"] sp_mask_to := by
  refine F.ok sc_mask_to (fun vs H Q E h => ?_) (fun cdv A outer s H vs Q E hr h => ?_)
  · obtain ⟨n, rfl, _⟩ := h
    rfl
  · obtain ⟨n, rfl, h1, q⟩ := h
    refine ⟨_, (pss_one (ps_ret (pe_op op_sub (pe_op op_shl pe_int (pv 0)) pe_int))), ?_⟩
    (repeat (first | (with_reducible first | refine rd_c ?_ | refine rd_op ?_ | refine rd_ret ?_) | (((with_reducible apply rd_var); exact rfl))))
    refine rd_rI ⟨by (first | assumption | decide | omega), by (first | assumption | decide | omega), by decide⟩ ?_
    (repeat (first | (with_reducible first | refine rd_c ?_ | refine rd_rI0 ?_)))
    have hp : 0 < 2 ^ n := Nat.two_pow_pos n
    rw [show ((n : Int)).toNat = n by (first | assumption | decide | omega), pow_cast, show ((2 ^ n : Nat) : Int) - 1 = ((2 ^ n - 1 : Nat) : Int) by (first | assumption | decide | omega)]
    exact q
noncomputable def sp_has_number : Sp := fun vs H Q _ => ∃ m n : Nat, vs = [.int m, .int n] ∧ 1 ≤ n ∧ n ≤ 1000 ∧ Q (.bl (m.testBit (n - 1))) H
theorem and_bit (m i : Nat) : (!decide (((m &&& 2 ^ i : Nat) : Int) = 0)) = m.testBit i := by
  have e : (m &&& 2 ^ i) = (m.testBit i).toNat * 2 ^ i := by
    refine Nat.eq_of_testBit_eq fun j => ?_
    rw [Nat.testBit_and, Nat.testBit_two_pow]
    by_cases h : i = j
    · subst h
      cases hb : m.testBit i <;> simp
    · cases hb : m.testBit i <;> simp [h, Nat.testBit_two_pow]
  rw [e]
  have hp : 0 < 2 ^ i := Nat.two_pow_pos i
  cases m.testBit i with
  | false => simp
  | true =>
    rw [decide_eq_false (by rw [Bool.toNat_true]; omega)]
    rfl
noncomputable abbrev s_has_number : Stmt := top 17
theorem sc_has_number : FnScope ["mask", "number"] ["mask", "number"] (defScope s_has_number) := ⟨rfl, rfl, rfl, by decide +kernel, rfl, by decide +kernel, by decide +kernel⟩
theorem ok_has_number {f : Addr} {fd : FuncData} (F : Fun K "has_number" "has_number" s_has_number f fd) (T : Txt K mg c) (c_bit_of : CallF P w K mg base "bit_of" 1 ["number"] sp_bit_of) : FnOk P w K mg base CX0 2 f fd ["mask", "number"] sp_has_number := by
  refine F.ok sc_has_number (fun vs H Q E h => ?_) (fun cdv A outer s H vs Q E hr h => ?_)
  · obtain ⟨m, n, rfl, _⟩ := h
    rfl
  · obtain ⟨m, n, rfl, h1, h2, q⟩ := h
    refine ⟨_, (pss_one (ps_ret (pe_cmpR op_ne (pe_op op_and (pv 0) (pe_callF c_bit_of hr (pa_cons (pv 1) pa_nil))) pe_int (nomark _)))), ?_⟩
    (repeat (first | (with_reducible first | refine rd_op ?_ | refine rd_ret ?_ | refine rd_nil ?_ | refine rd_cons ?_ | refine rd_call ?_) | (((with_reducible apply rd_var); exact rfl))))
    refine ⟨n, rfl, h1, h2, ?_⟩
    (repeat (first | (with_reducible first | refine rd_c ?_ | refine rd_rI0 ?_ | refine rd_neI ?_)))
    rw [bA, and_bit]
    exact q
noncomputable def sp_numbers_of : Sp := fun vs H Q _ => ∃ m : Nat, vs = [.int m] ∧ m < 2 ^ 900 ∧ ∀ H' p, Same H H' → H p = none → H' p = some (.lst ((MM.nOf m).map nV)) → Q (.ref p) H'
noncomputable abbrev s_numbers_of : Stmt := top 18
theorem sc_numbers_of : FnScope ["mask"] ["mask"] (defScope s_numbers_of) := ⟨rfl, rfl, rfl, by decide +kernel, rfl, by decide +kernel, by decide +kernel⟩
theorem ok_numbers_of {f : Addr} {fd : FuncData} (F : Fun K "numbers_of" "numbers_of" s_numbers_of f fd) (T : Txt K mg c) (c_has_number : CallF P w K mg base "has_number" 2 ["mask", "number"] sp_has_number) : FnOk P w K mg base CX0 3 f fd ["mask"] sp_numbers_of := by
  refine F.ok sc_numbers_of (fun vs H Q E h => ?_) (fun cdv A outer s H vs Q E hr h => ?_)
  · obtain ⟨m, rfl, _⟩ := h
    rfl
  · obtain ⟨m, rfl, h1, q⟩ := h
    have hb := MM.bits_le h1
    refine ⟨_, (pss_one (ps_ret (pe_comp1 (pi_range2 rfl (T.own _ (by decide)) (pa_cons pe_int (pa_cons (pe_op op_add (kx_bm0 (K := K) PySem.F.plainAttrs_int PySem.F.slot_int_bit_length PySem.F.type_int_bit_length mt_bit_length (pv 0)) pe_int) pa_nil))) (fun _ _ _ _ => (pts_one (pt_val (pe_callF c_has_number hr (pa_cons (pv 1) (pa_cons (pv 0) pa_nil)))))) (fun _ _ _ _ => (pv 0))))), ?_⟩
    (repeat (first | (with_reducible first | refine rd_c ?_ | refine rd_op ?_ | refine rd_ret ?_ | refine rd_cons ?_ | refine rd_bm0 ?_ | refine rd_comp ?_ | refine rd_i2 ?_) | (((with_reducible apply rd_var); exact rfl))))
    refine tyI ?_
    refine rd_bits ?_
    (repeat (first | (with_reducible first | refine rd_c ?_ | refine rd_rI0 ?_ | refine rd_nil ?_)))
    refine ⟨_, _, rfl, ⟨by decide, by decide, by (first | assumption | decide | omega), by (first | assumption | decide | omega)⟩, fun D hD => ?_⟩
    rw [show ((MM.bits m : Nat) + 1 - 1 : Int).toNat = MM.bits m by (first | assumption | decide | omega)]
    refine ints_compF (p := m.testBit) (G := fun i => 1 + (i : Int)) (src_range rfl) hD (by (first | assumption | decide | omega)) ?_ ?_ ?_
    · intro i H' R hi s k
      (repeat (first | (with_reducible first | refine rd_tB ?_ | refine rd_nil ?_ | refine rd_cons ?_ | refine rd_call ?_) | (((with_reducible apply rd_var); exact rfl))))
      refine ⟨m, i + 1, by rw [show (1 : Int) + (i : Nat) = ((i + 1 : Nat) : Int) by (first | assumption | decide | omega)], by (first | assumption | decide | omega), by (first | assumption | decide | omega), ?_⟩
      rw [show i + 1 - 1 = i by (first | assumption | decide | omega)]
      exact ⟨_, rfl, k H' (Same.refl _)⟩
    · intro i H' R hi hp s k
      (repeat (first | (((with_reducible apply rd_var); exact rfl))))
      exact k H' (Same.refl _)
    · intro H' s hl
      refine q H' D s hD ?_
      rw [hl]
      unfold MM.nOf
      rw [List.map_map, List.map_map]
      congr 2
      refine List.map_congr_left fun i _ => ?_
      show V.int (1 + (i : Int)) = V.int ((i + 1 : Nat) : Int)
      congr 1
      first | assumption | decide | omega
noncomputable def sp_union_of (K : PySem.W.Frag) : Sp := fun vs H Q _ => ∃ tp a, ∃ ns : List Nat, vs = [.ref a] ∧ SqS tp K H a (ns.map nV) ∧ ∀ H', Same H H' → Q (.int ((MM.uOf ns : Nat) : Int)) H'
noncomputable abbrev s_union_of : Stmt := top 19
theorem sc_union_of : FnScope ["masks", "union", "mask"] ["masks"] (defScope s_union_of) := ⟨rfl, rfl, rfl, by decide +kernel, rfl, by decide +kernel, by decide +kernel⟩
theorem ok_union_of {f : Addr} {fd : FuncData} (F : Fun K "union_of" "union_of" s_union_of f fd) (T : Txt K mg c) : FnOk P w K mg base CX0 1 f fd ["masks"] (sp_union_of K) := by
  refine F.ok sc_union_of (fun vs H Q E h => ?_) (fun cdv A outer s H vs Q E hr h => ?_)
  · obtain ⟨tp, a, ns, rfl, _⟩ := h
    rfl
  · obtain ⟨tp, a, ns, rfl, sa, q⟩ := h
    refine ⟨_, (pss_cons (ps_set (i := 1) sc_union_of.nd rfl (Or.inl rfl) pe_int)
      (pss_cons (ps_for PassesOwn.never rfl (pi_sq (K := K) (pv 0)) (pg_name (i := 2) sc_union_of.nd rfl (Or.inl rfl)) (pss_one (ps_aug (i := 1) sc_union_of.nd rfl (Or.inl rfl) (pv 2) iop_or)))
      (pss_one (ps_ret (pv 1))))), ?_⟩
    (repeat (first | (with_reducible first | refine rd_seq ?_ | refine rd_asg ?_ | refine rd_name ?_ | refine rd_c ?_ | refine rd_for ?_ | refine rd_iQ ?_) | (((with_reducible apply rd_var); exact rfl))))
    refine ⟨tp, a, rfl, ⟨_, sa⟩, for_src (fs_sq sa) (fun i σ H3 => ∃ x, σ = [some (.ref a), some (.int ((MM.uOf (ns.take i) : Nat) : Int)), x] ∧ Same H H3) ⟨_, rfl, Same.refl _⟩ (fun i σ H3 ⟨_, _, s⟩ => s) ?_ ?_⟩
    · rintro i σ H' H3 hi ⟨x, rfl, s'⟩ s3
      have hi' : i < ns.length := by simpa using hi
      rw [getD_nat hi]
      (skip)
      refine rd_aug rfl ?_
      (repeat (first | (with_reducible refine rd_rI0 ?_) | (((with_reducible apply rd_var); exact rfl))))
      rw [bO, ← MM.uOf_snoc, ← take_getD hi']
      exact ⟨_, rfl, s'.trans s3⟩
    · rintro σ H3 ⟨x, rfl, s3⟩
      (repeat (first | (with_reducible refine rd_ret ?_) | (((with_reducible apply rd_var); exact rfl))))
      rw [List.length_map, List.take_length]
      exact q H3 s3
end
end K27
open L2
namespace K27
open PySem L2 PySem.Spec PyProof.Rows
seal L2.PE L2.PT L2.PW L2.PA L2.PS L2.PSs L2.PI L2.PG L2.PTs L2.PGs
section
variable {P : Program} {w : World} {K : PySem.W.Frag} {mg : Str → Option Value} {base : Heap} {c : Cs}
noncomputable def sp_is_whole (K : PySem.W.Frag) : Sp := fun vs H Q _ => ∃ x, vs = [x] ∧ Ty K H x ∧ Q (.bl (isIntV x)) H
noncomputable abbrev s_is_whole : Stmt := top 21
theorem sc_is_whole : FnScope ["thing"] ["thing"] (defScope s_is_whole) := ⟨rfl, rfl, rfl, by decide +kernel, rfl, by decide +kernel, by decide +kernel⟩
theorem ok_is_whole {f : Addr} {fd : FuncData} (F : Fun K "is_whole" "is_whole" s_is_whole f fd) (T : Txt K mg c) : FnOk P w K mg base CX0 1 f fd ["thing"] (sp_is_whole K) := by
  refine F.ok sc_is_whole (fun vs H Q E h => ?_) (fun cdv A outer s H vs Q E hr h => ?_)
  · obtain ⟨x, rfl, _⟩ := h
    rfl
  · obtain ⟨x, rfl, ⟨n, ty⟩, k⟩ := h
    refine ⟨_, (pss_one (ps_ret (pe_and (pe_callB (k_isin (K := K)) rfl (T.own _ (by decide)) boot_isinstance (pa_cons (pv 0) (pa_cons (pe_ty rfl (T.own _ (by decide)) boot_int) pa_nil))) (pe_one (pe_not (pe_callB (k_isin (K := K)) rfl (T.own _ (by decide)) boot_isinstance (pa_cons (pv 0) (pa_cons (pe_ty rfl (T.own _ (by decide)) boot_bool) pa_nil)))))))), ?_⟩
    (repeat (first | (with_reducible first | refine rd_c ?_ | refine rd_andV ?_ | refine rd_ret ?_ | refine rd_nil ?_ | refine rd_cons ?_ | refine rd_cb ?_) | (((with_reducible apply rd_var); exact rfl))))
    refine rd_isin ty (kit_int ty) ?_
    (repeat (first | (with_reducible refine rd_bl ?_)))
    refine iteC (fun hc => ?_) (fun hc => ?_)
    · (repeat (first | (with_reducible first | refine rd_c ?_ | refine rd_notV ?_ | refine rd_nil ?_ | refine rd_cons ?_ | refine rd_cb ?_) | (((with_reducible apply rd_var); exact rfl))))
      refine rd_isin ty (kit_bool ty) ?_
      (repeat (first | (with_reducible refine rd_bl ?_)))
      exact fin_b (by cases x <;> first | rfl | exact absurd hc Bool.false_ne_true) k
    · exact fin_b (by cases x <;> first | rfl | exact absurd hc.symm Bool.false_ne_true) k
noncomputable def sp_is_among (K : PySem.W.Frag) : Sp := fun vs H Q _ => ∃ x a b, vs = [x, .int a, .int b] ∧ Ty K H x ∧ Q (.bl (amongV x a b)) H
noncomputable abbrev s_is_among : Stmt := top 22
theorem sc_is_among : FnScope ["thing", "least", "most"] ["thing", "least", "most"] (defScope s_is_among) := ⟨rfl, rfl, rfl, by decide +kernel, rfl, by decide +kernel, by decide +kernel⟩
theorem ok_is_among {f : Addr} {fd : FuncData} (F : Fun K "is_among" "is_among" s_is_among f fd) (T : Txt K mg c) (c_is_whole : CallF P w K mg base "is_whole" 1 ["thing"] (sp_is_whole K)) : FnOk P w K mg base CX0 2 f fd ["thing", "least", "most"] (sp_is_among K) := by
  refine F.ok sc_is_among (fun vs H Q E h => ?_) (fun cdv A outer s H vs Q E hr h => ?_)
  · obtain ⟨x, a, b, rfl, _⟩ := h
    rfl
  · obtain ⟨x, a, b, rfl, ty, k⟩ := h
    refine ⟨_, (pss_one (ps_ret (pe_and (pe_callF c_is_whole hr (pa_cons (pv 0) pa_nil)) (pe_one (pe_chain op_le op_le (pv 1) (pv 0) (pv 2)))))), ?_⟩
    (repeat (first | (with_reducible first | refine rd_andV ?_ | refine rd_ret ?_ | refine rd_nil ?_ | refine rd_cons ?_ | refine rd_call ?_) | (((with_reducible apply rd_var); exact rfl))))
    refine ⟨x, rfl, ty, ?_⟩
    (repeat (first | (with_reducible refine rd_bl ?_)))
    refine iteC (fun hc => ?_) (fun hc => ?_)
    · cases x with
      | int i =>
        (repeat (first | (with_reducible first | refine rd_rI0 ?_ | refine rd_bl ?_ | refine rd_chain ?_) | (((with_reducible apply rd_var); exact rfl))))
        refine iteC (fun h1 => ?_) (fun h1 => ?_)
        · (repeat (first | (with_reducible refine rd_rI0 ?_) | (((with_reducible apply rd_var); exact rfl))))
          exact fin_b (by show _ = (decide (a ≤ i) && decide (i ≤ b)); rw [h1, Bool.true_and]) k
        · (skip)
          exact fin_b (by show _ = (decide (a ≤ i) && decide (i ≤ b)); rw [h1, Bool.false_and]) k
      | _ => exact absurd hc Bool.false_ne_true
    · exact fin_b (by cases x <;> first | rfl | exact absurd hc.symm Bool.false_ne_true) k
end
end K27
open L2
namespace K27
open PySem L2 PySem.Spec PyProof.Rows
seal L2.PE L2.PT L2.PW L2.PA L2.PS L2.PSs L2.PI L2.PG L2.PTs L2.PGs
section
variable {P : Program} {w : World} {K : PySem.W.Frag} {mg : Str → Option Value} {base : Heap} {c : Cs}
noncomputable def ClAt (C : Addr) (H : Hp) (x : Addr) (n : Nat) (rs : List Nat) : Prop := ∃ dx t, H x = some (.ins C dx [("width", nV n), ("rows", .ref t)]) ∧ H t = some (.tup (rs.map nV))
theorem ClAt.same {C : Addr} {H H' : Hp} {x : Addr} {n : Nat} {rs : List Nat} (h : ClAt C H x n rs) (s : Same H H') : ClAt C H' x n rs := by
  obtain ⟨dx, t, h1, h2⟩ := h
  exact ⟨dx, t, s _ _ h1, s _ _ h2⟩
set_option genInjectivity false in
structure ClOk (n : Nat) (rs : List Nat) : Prop where
  n1 : 1 ≤ n
  n2 : n ≤ 60
  p1 : 1 ≤ rs.length
  p2 : rs.length ≤ 60
  lt : ∀ r ∈ rs, r < 2 ^ n
inductive ClFit (K : PySem.W.Frag) (H : Hp) : V → V → Bool → Prop
  | ends {e r : V} (ty : Ty K H e) (h : amongV e 1 60 = false) : ClFit K H e r false
  | kind {n : Nat} {r : V} {t : Value} (h1 : 1 ≤ n) (h2 : n ≤ 60) (ty : TyOf K H r t) (h : PySem.W.kitOne K t (.type "list") = some false) : ClFit K H (.int n) r false
  | many {n : Nat} {a : Addr} {xs : List V} (h1 : 1 ≤ n) (h2 : n ≤ 60) (ha : H a = some (.lst xs)) (h : xs.length = 0 ∨ 60 < xs.length) : ClFit K H (.int n) (.ref a) false
  | rows {n : Nat} {a : Addr} {xs : List V} (h1 : 1 ≤ n) (h2 : n ≤ 60) (ha : H a = some (.lst xs)) (l1 : 1 ≤ xs.length) (l2 : xs.length ≤ 60) (ty : ∀ x ∈ xs, Ty K H x) : ClFit K H (.int n) (.ref a) (xs.all fun x => amongV x 0 ((2 ^ n - 1 : Nat) : Int))
theorem ClFit.same {H H' : Hp} {e r : V} {b : Bool} (h : ClFit K H e r b) (s : Same H H') : ClFit K H' e r b := by
  cases h with
  | ends ty h => exact .ends (ty.same s) h
  | kind h1 h2 ty h => exact .kind h1 h2 (ty.same s) h
  | many h1 h2 ha h => exact .many h1 h2 (s _ _ ha) h
  | rows h1 h2 ha l1 l2 ty => exact .rows h1 h2 (s _ _ ha) l1 l2 fun x hx => (ty x hx).same s
theorem ClFit.ok {H : Hp} {n : Nat} {a : Addr} {rs : List Nat} (ha : H a = some (.lst (rs.map nV))) (ok : ClOk n rs) : ClFit K H (.int n) (.ref a) true := by
  have e : ((rs.map nV).all fun x => amongV x 0 ((2 ^ n - 1 : Nat) : Int)) = true := by
    rw [List.all_eq_true]
    intro x hx
    obtain ⟨r, hr, rfl⟩ := List.mem_map.mp hx
    have := ok.lt _ hr
    have hp : 0 < 2 ^ n := Nat.two_pow_pos n
    show (decide ((0 : Int) ≤ (r : Nat)) && decide (((r : Nat) : Int) ≤ ((2 ^ n - 1 : Nat) : Int))) = true
    simp only [Bool.and_eq_true, decide_eq_true_eq]
    first | assumption | decide | omega
  rw [← e]
  refine .rows ok.n1 ok.n2 ha (by rw [List.length_map]; exact ok.p1) (by rw [List.length_map]; exact ok.p2) fun x hx => ?_
  obtain ⟨r, hr, rfl⟩ := List.mem_map.mp hx
  exact ⟨_, .int _⟩
noncomputable def sp_need_cloth (K : PySem.W.Frag) (c : Cs) : Sp := fun vs H Q E => ∃ (e r : V) (b : Bool), vs = [e, r] ∧ ClFit K H e r b ∧ ∀ H', Same H H' → (b = true → Q .non H') ∧ (b = false → E (.ref c.BadCloth) none H')
theorem among_ok {n : Nat} (h1 : 1 ≤ n) (h2 : n ≤ 60) : amongV (.int n) 1 60 = true := by
  show (decide ((1 : Int) ≤ n) && decide ((n : Int) ≤ 60)) = true
  simp; omega
noncomputable abbrev s_need_cloth : Stmt := top 24
theorem sc_need_cloth : FnScope ["ends", "rows"] ["ends", "rows"] (defScope s_need_cloth) := ⟨rfl, rfl, rfl, by decide +kernel, rfl, by decide +kernel, by decide +kernel⟩
theorem ok_need_cloth {f : Addr} {fd : FuncData} (F : Fun K "need_cloth" "need_cloth" s_need_cloth f fd) (T : Txt K mg c) (c_is_among : CallF P w K mg base "is_among" 2 ["thing", "least", "most"] (sp_is_among K)) (c_mask_to : CallF P w K mg base "mask_to" 1 ["most"] sp_mask_to) : FnOk P w K mg base (CXE P w) 3 f fd ["ends", "rows"] (sp_need_cloth K c) := by
  refine Fun.okE F sc_need_cloth (fun vs H Q E h => ?_) (fun cdv A outer s H vs Q E hr h => ?_)
  · obtain ⟨e, r, b, rfl, _⟩ := h
    rfl
  · obtain ⟨e, r, b, rfl, hf, k⟩ := h
    have tye : Ty K H e := by cases hf <;> first | assumption | exact ⟨_, .int _⟩
    refine ⟨_, (pss_cons (ps_if (pt_not (pt_val (pe_callF c_is_among hr (pa_cons (pv 0) (pa_cons pe_int (pa_cons (pe_gI T.k_MOST_ENDS) pa_nil)))))) (pss_one (ps_raiseK T.g_BadCloth T.xi_BadCloth (pa_cons pe_str pa_nil))) pss_nil)
      (pss_cons (ps_if (PW.pt (pw_or (pt_not (pt_val (pe_callB (k_isin (K := K)) rfl (T.own _ (by decide)) boot_isinstance (pa_cons (pv 1) (pa_cons (pe_ty rfl (T.own _ (by decide)) boot_list') pa_nil))))) (pw_or1 (pt_not (pt_val (pe_callF c_is_among hr (pa_cons (pe_callB (k_len (K := K)) rfl (T.own _ (by decide)) boot_len (pa_cons (pv 1) pa_nil)) (pa_cons pe_int (pa_cons (pe_gI T.k_MOST_PICKS) pa_nil))))))))) (pss_one (ps_raiseK T.g_BadCloth T.xi_BadCloth (pa_cons pe_str pa_nil))) pss_nil)
      (pss_one (ps_if (pt_not (pt_val (pe_callB (k_all (K := K)) rfl (T.own _ (by decide)) boot_all' (pa_cons (pe_comp1 (k_pil (K := K) (pv 1)) (fun _ _ _ _ => pts_nil) (fun _ _ _ _ => (pe_callF c_is_among hr (pa_cons (pv 0) (pa_cons pe_int (pa_cons (pe_callF c_mask_to (hr.mono (by decide)) (pa_cons (pv 1) pa_nil)) pa_nil)))))) pa_nil)))) (pss_one (ps_raiseK T.g_BadCloth T.xi_BadCloth (pa_cons pe_str pa_nil))) pss_nil)))), ?_⟩
    (repeat (first | (with_reducible first | refine rd_seq ?_ | refine rd_c ?_ | refine rd_not ?_ | refine rd_tB ?_ | refine rd_nil ?_ | refine rd_cons ?_ | refine rd_call ?_) | (((with_reducible apply rd_var); exact rfl)) | (with_reducible refine rd_ifS ?_)))
    refine ⟨_, _, _, rfl, tye, ?_⟩
    (repeat (first | (with_reducible refine rd_bl ?_)))
    cases hf with
    | ends ty h =>
      rw [h]
      refine iteT ?_
      exact ⟨by decide, (k H (Same.refl _)).2 rfl⟩
    | kind h1 h2 ty h =>
      rw [among_ok h1 h2]
      refine iteF ?_
      (repeat (first | (with_reducible first | refine rd_seq ?_ | refine rd_c ?_ | refine rd_not ?_ | refine rd_tB ?_ | refine rd_or ?_ | refine rd_nil ?_ | refine rd_cons ?_ | refine rd_cb ?_ | refine rd_next ?_) | (((with_reducible apply rd_var); exact rfl)) | (with_reducible refine rd_ifS ?_)))
      refine rd_isin ty h ?_
      (repeat (first | (with_reducible first | refine rd_bl ?_ | refine iteT ?_ | refine iteNT ?_)))
      exact ⟨by decide, (k H (Same.refl _)).2 rfl⟩
    | @many n a xs h1 h2 ha h =>
      rw [among_ok h1 h2]
      refine iteF ?_
      (repeat (first | (with_reducible first | refine rd_seq ?_ | refine rd_c ?_ | refine rd_not ?_ | refine rd_tB ?_ | refine rd_or ?_ | refine rd_nil ?_ | refine rd_cons ?_ | refine rd_cb ?_ | refine rd_next ?_) | (((with_reducible apply rd_var); exact rfl)) | (with_reducible refine rd_ifS ?_)))
      refine rd_isin (.lst ha) (kb (b := true) (by decide +kernel)) ?_
      (repeat (first | (with_reducible first | refine rd_not ?_ | refine rd_tB ?_ | refine rd_bl ?_ | refine rd_nil ?_ | refine rd_cons ?_ | refine rd_cb ?_ | refine rd_call ?_ | refine iteNF ?_) | (((with_reducible apply rd_var); exact rfl))))
      refine rd_lenL (SqL.of ha) ?_
      (repeat (first | (with_reducible first | refine rd_c ?_ | refine rd_nil ?_ | refine rd_cons ?_)))
      refine ⟨_, _, _, rfl, ⟨_, .int _⟩, ?_⟩
      (repeat (first | (with_reducible refine rd_bl ?_)))
      have d2 : amongV (.int (xs.length : Nat)) 1 60 = false := by
        show (decide ((1 : Int) ≤ (xs.length : Nat)) && decide (((xs.length : Nat) : Int) ≤ 60)) = false
        rw [Bool.and_eq_false_iff, decide_eq_false_iff_not, decide_eq_false_iff_not]
        first | assumption | decide | omega
      rw [d2]
      refine iteT ?_
      exact ⟨by decide, (k H (Same.refl _)).2 rfl⟩
    | @rows n a xs h1 h2 ha l1 l2 ty =>
      rw [among_ok h1 h2]
      refine iteF ?_
      (repeat (first | (with_reducible first | refine rd_seq ?_ | refine rd_c ?_ | refine rd_not ?_ | refine rd_tB ?_ | refine rd_or ?_ | refine rd_nil ?_ | refine rd_cons ?_ | refine rd_cb ?_ | refine rd_next ?_) | (((with_reducible apply rd_var); exact rfl)) | (with_reducible refine rd_ifS ?_)))
      refine rd_isin (.lst ha) (kb (b := true) (by decide +kernel)) ?_
      (repeat (first | (with_reducible first | refine rd_not ?_ | refine rd_tB ?_ | refine rd_bl ?_ | refine rd_nil ?_ | refine rd_cons ?_ | refine rd_cb ?_ | refine rd_call ?_ | refine iteNF ?_) | (((with_reducible apply rd_var); exact rfl))))
      refine rd_lenL (SqL.of ha) ?_
      (repeat (first | (with_reducible first | refine rd_c ?_ | refine rd_nil ?_ | refine rd_cons ?_)))
      refine ⟨_, _, _, rfl, ⟨_, .int _⟩, ?_⟩
      (repeat (first | (with_reducible refine rd_bl ?_)))
      rw [among_ok l1 l2]
      refine iteF ?_
      (repeat (first | (with_reducible first | refine rd_not ?_ | refine rd_tB ?_ | refine rd_cons ?_ | refine rd_cb ?_ | refine rd_next ?_ | refine rd_comp ?_ | refine rd_iL ?_) | (((with_reducible apply rd_var); exact rfl)) | (with_reducible refine rd_ifS ?_)))
      refine ⟨a, rfl, ⟨_, SqL.of ha⟩, fun D hD => ?_⟩
      refine bls_comp (G := fun i => amongV (xs.getD i .non) 0 ((2 ^ n - 1 : Nat) : Int)) (src_list (SqL.of ha) rfl) hD (by (first | assumption | decide | omega)) ?_ ?_
      · intro i H' R hi s kk
        (repeat (first | (with_reducible first | refine rd_c ?_ | refine rd_nil ?_ | refine rd_cons ?_ | refine rd_call ?_) | (((with_reducible apply rd_var); exact rfl))))
        refine ⟨n, rfl, by (first | assumption | decide | omega), ?_⟩
        (repeat (first | (with_reducible refine rd_nil ?_)))
        refine ⟨_, _, _, rfl, (ty _ ?_).same s, ?_⟩
        · rw [List.getD_eq_getElem?_getD, List.getElem?_eq_getElem hi]
          exact List.getElem_mem hi
        exact kk H' (Same.refl _)
      · intro H' s hl
        (repeat (first | (with_reducible refine rd_nil ?_)))
        refine rd_all (SqL.of hl) ?_
        (repeat (first | (with_reducible refine rd_bl ?_)))
        have d4 : ((List.range xs.length).map fun i => amongV (xs.getD i .non) 0 ((2 ^ n - 1 : Nat) : Int)).all id = xs.all fun x => amongV x 0 ((2 ^ n - 1 : Nat) : Int) := by
          rw [map_range_getD (fun x : V => amongV x 0 ((2 ^ n - 1 : Nat) : Int)) xs .non, List.all_map]
          rfl
        rw [d4]
        refine iteC (fun hb => ?_) (fun hb => ?_)
        · have hb : (xs.all fun x => amongV x 0 ((2 ^ n - 1 : Nat) : Int)) = false := by simpa using hb
          exact ⟨by decide, (k H' s).2 hb⟩
        · have hb : (xs.all fun x => amongV x 0 ((2 ^ n - 1 : Nat) : Int)) = true := by simpa using hb
          (repeat (first | (with_reducible refine rd_next ?_)))
          exact (k H' s).1 hb
noncomputable def sp_Cloth___init__ (K : PySem.W.Frag) (c : Cs) : Sp := fun vs H Q E => ∃ (x dx : Addr) (e r : V), vs = [.ref x, e, r] ∧ H x = some (.ins c.Cloth dx []) ∧
  ((ClFit K H e r false ∧ ∀ H', Same H H' → E (.ref c.BadCloth) none H') ∨
  (∃ (n : Nat) (a : Addr) (rs : List Nat), e = .int n ∧ r = .ref a ∧ H a = some (.lst (rs.map nV)) ∧ ClOk n rs ∧ ∀ H', (∀ b o, H b = some o → b ≠ x → H' b = some o) → ClAt c.Cloth H' x n rs → Q .non H'))
noncomputable abbrev s_Cloth___init__ : Stmt := inClass (top 25) 0
theorem sc_Cloth___init__ : FnScope ["self", "ends", "rows"] ["self", "ends", "rows"] (defScope s_Cloth___init__) := ⟨rfl, rfl, rfl, by decide +kernel, rfl, by decide +kernel, by decide +kernel⟩
theorem ok_Cloth___init__ {f : Addr} {fd : FuncData} (F : Fun K "__init__" "Cloth.__init__" s_Cloth___init__ f fd) (T : Txt K mg c) (c_need_cloth : CallE P w K mg base "need_cloth" 3 ["ends", "rows"] (sp_need_cloth K c)) : FnOk P w K mg base (CXE P w) 4 f fd ["self", "ends", "rows"] (sp_Cloth___init__ K c) := by
  refine Fun.okE F sc_Cloth___init__ (fun vs H Q E h => ?_) (fun cdv A outer s H vs Q E hr h => ?_)
  · obtain ⟨x, dx, e, r, rfl, _⟩ := h
    rfl
  · obtain ⟨x, dx, e, r, rfl, hx, h⟩ := h
    refine ⟨_, (pss_cons (ps_expr (pe_callE c_need_cloth hr passE (pa_cons (pv 1) (pa_cons (pv 2) pa_nil))))
      (pss_cons (ps_fld (pv 0) (pv 1) rfl)
      (pss_one (ps_fld (pv 0) (pe_callTy (k_tuple (K := K)) rfl (T.own _ (by decide)) boot_tuple' (pa_cons (pv 2) pa_nil)) rfl)))), ?_⟩
    (repeat (first | (with_reducible first | refine rd_seq ?_ | refine rd_drop ?_ | refine rd_nil ?_ | refine rd_cons ?_ | refine rd_call ?_) | (((with_reducible apply rd_var); exact rfl))))
    rcases h with ⟨hf, k⟩ | ⟨n, a, rs, rfl, rfl, ha, ok, k⟩
    · exact ⟨_, _, false, rfl, hf, fun H1 s1 => ⟨fun z => absurd z (by decide), fun _ => k H1 s1⟩⟩
    refine ⟨_, _, true, rfl, .ok ha ok, fun H1 s1 => ⟨fun _ => ?_, fun z => absurd z (by decide)⟩⟩
    (repeat (first | (with_reducible first | refine rd_seq ?_ | refine rd_put ?_) | (((with_reducible apply rd_var); exact rfl))))
    refine rd_set (s1 _ _ hx) T.kd_Cloth.cl T.na_Cloth_width (by decide) ?_
    (repeat (first | (with_reducible first | refine rd_nil ?_ | refine rd_cons ?_ | refine rd_cb ?_ | refine rd_put ?_) | (((with_reducible apply rd_var); exact rfl))))
    have nax : a ≠ x := ne_of ha hx (by intro z; cases z)
    refine rd_tupOf (SqL.of (by rw [upd_ne nax]; exact s1 _ _ ha)) fun t ht => ?_
    (repeat (first | (((with_reducible apply rd_var); exact rfl))))
    have nxt : x ≠ t := ne_of_none upd_same ht
    refine rd_set (by rw [upd_ne nxt]; exact upd_same) T.kd_Cloth.cl T.na_Cloth_rows (by show 1 < 1000; decide) ?_
    (skip)
    refine k _ (fun b o e hb => ?_) ⟨dx, t, upd_same, by rw [upd_ne (Ne.symm nxt), upd_same]⟩
    have hbt : b ≠ t := fun z => by
      subst z
      rw [upd_ne hb, s1 _ _ e] at ht
      cases ht
    rw [upd_ne hb, upd_ne hbt, upd_ne hb]
    exact s1 _ _ e
theorem cl_make {c : Cs} {H : Hp} {Q : VK} {E : XK} {n : Nat} {a : Addr} {rs : List Nat} (ha : H a = some (.lst (rs.map nV))) (ok : ClOk n rs) (h : ∀ H' x, Same H H' → H x = none → ClAt c.Cloth H' x n rs → Q (.ref x) H') :
    ∀ x dx, H x = none → H dx = none → dx ≠ x → sp_Cloth___init__ K c [.ref x, .int n, .ref a] (upd (upd H dx (.own x)) x (.ins c.Cloth dx [])) (fun v H2 => v = .non ∧ Q (.ref x) H2) E := by
  intro x dx hx hdx ne
  have s0 := same_obj (o := HO.ins c.Cloth dx []) (u := .own x) hx hdx
  exact ⟨x, dx, _, _, rfl, upd_same, .inr ⟨n, a, rs, rfl, rfl, s0 _ _ ha, ok, fun H' kp at' => ⟨rfl, h H' x (fun b o e => kp b o (s0 b o e) (ne_of_none e hx)) hx at'⟩⟩⟩
theorem cl_mk {c : Cs} {H : Hp} {R : Addr → Hp → Prop} {E : XK} {n : Nat} {a : Addr} {rs : List Nat} (ha : H a = some (.lst (rs.map nV))) (ok : ClOk n rs) (h : ∀ H' x, Same H H' → H x = none → ClAt c.Cloth H' x n rs → R x H') :
    ∀ x dx, H x = none → H dx = none → dx ≠ x → sp_Cloth___init__ K c [.ref x, .int n, .ref a] (upd (upd H dx (.own x)) x (.ins c.Cloth dx [])) (fun v H2 => v = .non ∧ R x H2) E := by
  intro x dx hx hdx ne
  have s0 := same_obj (o := HO.ins c.Cloth dx []) (u := .own x) hx hdx
  exact ⟨x, dx, _, _, rfl, upd_same, .inr ⟨n, a, rs, rfl, rfl, s0 _ _ ha, ok, fun H' kp at' => ⟨rfl, h H' x (fun b o e => kp b o (s0 b o e) (ne_of_none e hx)) hx at'⟩⟩⟩
theorem cl_bad {c : Cs} {H : Hp} {Q : Addr → VK} {E : XK} {e r : V} (hf : ClFit K H e r false) (h : ∀ H', Same H H' → E (.ref c.BadCloth) none H') :
    ∀ x dx, H x = none → H dx = none → dx ≠ x → sp_Cloth___init__ K c [.ref x, e, r] (upd (upd H dx (.own x)) x (.ins c.Cloth dx [])) (Q x) E := by
  intro x dx hx hdx ne
  have s0 := same_obj (o := HO.ins c.Cloth dx []) (u := .own x) hx hdx
  exact ⟨x, dx, e, r, rfl, upd_same, .inl ⟨hf.same s0, fun H' s => h H' (s0.trans s)⟩⟩
noncomputable def sp_Cloth_told (c : Cs) : Sp := fun vs H Q _ => ∃ x n rs, vs = [.ref x] ∧ ClAt c.Cloth H x n rs ∧ ∀ H' p l, Same H H' → H p = none → H l = none → H' p = some (.tup [nV n, .ref l]) → H' l = some (.lst (rs.map nV)) → Q (.ref p) H'
noncomputable abbrev s_Cloth_told : Stmt := inClass (top 25) 1
theorem sc_Cloth_told : FnScope ["self"] ["self"] (defScope s_Cloth_told) := ⟨rfl, rfl, rfl, by decide +kernel, rfl, by decide +kernel, by decide +kernel⟩
theorem ok_Cloth_told {f : Addr} {fd : FuncData} (F : Fun K "told" "Cloth.told" s_Cloth_told f fd) (T : Txt K mg c) : FnOk P w K mg base CX0 1 f fd ["self"] (sp_Cloth_told c) := by
  refine F.ok sc_Cloth_told (fun vs H Q E h => ?_) (fun cdv A outer s H vs Q E hr h => ?_)
  · obtain ⟨x, n, rs, rfl, _⟩ := h
    rfl
  · obtain ⟨x, n, rs, rfl, ⟨dx, t, h1, h2⟩, k⟩ := h
    refine ⟨_, (pss_one (ps_ret (pe_tup (pa_cons (k_fld (K := K) (pv 0) rfl) (pa_cons (pe_callTy (k_list (K := K)) rfl (T.own _ (by decide)) boot_list' (pa_cons (k_fld (K := K) (pv 0) rfl) pa_nil)) pa_nil))))), ?_⟩
    (repeat (first | (with_reducible first | refine rd_ret ?_ | refine rd_cons ?_ | refine rd_tup ?_ | refine rd_fld ?_) | (((with_reducible apply rd_var); exact rfl))))
    refine ⟨_, _, _, _, _, rfl, h1, T.kd_Cloth.cl, T.na_Cloth_width, rfl, ?_⟩
    (repeat (first | (with_reducible first | refine rd_cons ?_ | refine rd_cb ?_ | refine rd_fld ?_) | (((with_reducible apply rd_var); exact rfl))))
    refine ⟨_, _, _, _, _, rfl, h1, T.kd_Cloth.cl, T.na_Cloth_rows, rfl, ?_⟩
    (repeat (first | (with_reducible refine rd_nil ?_)))
    refine rd_listOfT (SqT.of h2) fun l hl => ?_
    (repeat (first | (with_reducible refine rd_nil ?_) | (((with_reducible refine rd_len ?_ ?_); exact Nat.le_of_ble_eq_true rfl))))
    intro p hp
    refine k _ p l ((same_new hl).trans (same_new hp)) ((same_new hl).free hp) hl upd_same ?_
    rw [upd_ne (ne_of_none upd_same hp), upd_same]
noncomputable def sp_Cloth_ends (c : Cs) : Sp := fun vs H Q _ => ∃ x n rs, vs = [.ref x] ∧ ClAt c.Cloth H x n rs ∧ Q (nV n) H
noncomputable abbrev s_Cloth_ends : Stmt := inClass (top 25) 2
theorem sc_Cloth_ends : FnScope ["self"] ["self"] (defScope s_Cloth_ends) := ⟨rfl, rfl, rfl, by decide +kernel, rfl, by decide +kernel, by decide +kernel⟩
theorem ok_Cloth_ends {f : Addr} {fd : FuncData} (F : Fun K "ends" "Cloth.ends" s_Cloth_ends f fd) (T : Txt K mg c) : FnOk P w K mg base CX0 1 f fd ["self"] (sp_Cloth_ends c) := by
  refine F.ok sc_Cloth_ends (fun vs H Q E h => ?_) (fun cdv A outer s H vs Q E hr h => ?_)
  · obtain ⟨x, n, rs, rfl, _⟩ := h
    rfl
  · obtain ⟨x, n, rs, rfl, ⟨dx, t, h1, h2⟩, k⟩ := h
    refine ⟨_, (pss_one (ps_ret (k_fld (K := K) (pv 0) rfl))), ?_⟩
    (repeat (first | (with_reducible first | refine rd_ret ?_ | refine rd_fld ?_) | (((with_reducible apply rd_var); exact rfl))))
    exact ⟨_, _, _, _, _, rfl, h1, T.kd_Cloth.cl, T.na_Cloth_width, rfl, k⟩
noncomputable def sp_Cloth_picks (c : Cs) : Sp := fun vs H Q _ => ∃ x n rs, vs = [.ref x] ∧ ClAt c.Cloth H x n rs ∧ Q (nV rs.length) H
noncomputable abbrev s_Cloth_picks : Stmt := inClass (top 25) 3
theorem sc_Cloth_picks : FnScope ["self"] ["self"] (defScope s_Cloth_picks) := ⟨rfl, rfl, rfl, by decide +kernel, rfl, by decide +kernel, by decide +kernel⟩
theorem ok_Cloth_picks {f : Addr} {fd : FuncData} (F : Fun K "picks" "Cloth.picks" s_Cloth_picks f fd) (T : Txt K mg c) : FnOk P w K mg base CX0 1 f fd ["self"] (sp_Cloth_picks c) := by
  refine F.ok sc_Cloth_picks (fun vs H Q E h => ?_) (fun cdv A outer s H vs Q E hr h => ?_)
  · obtain ⟨x, n, rs, rfl, _⟩ := h
    rfl
  · obtain ⟨x, n, rs, rfl, ⟨dx, t, h1, h2⟩, k⟩ := h
    refine ⟨_, (pss_one (ps_ret (pe_callB (k_len (K := K)) rfl (T.own _ (by decide)) boot_len (pa_cons (k_fld (K := K) (pv 0) rfl) pa_nil)))), ?_⟩
    (repeat (first | (with_reducible first | refine rd_ret ?_ | refine rd_cons ?_ | refine rd_cb ?_ | refine rd_fld ?_) | (((with_reducible apply rd_var); exact rfl))))
    refine ⟨_, _, _, _, _, rfl, h1, T.kd_Cloth.cl, T.na_Cloth_rows, rfl, ?_⟩
    (repeat (first | (with_reducible refine rd_nil ?_)))
    refine rd_lenT (SqT.of h2) ?_
    rw [List.length_map]
    exact k
end
end K27
open L2
namespace K27
open PySem L2 PySem.Spec PyProof.Rows
seal L2.PE L2.PT L2.PW L2.PA L2.PS L2.PSs L2.PI L2.PG L2.PTs L2.PGs
section
variable {P : Program} {w : World} {K : PySem.W.Frag} {mg : Str → Option Value} {base : Heap} {c : Cs}
theorem natsL (n : Nat) (G : Nat → Nat) : ((List.range n).map fun i => ((G i : Nat) : Int)).map V.int = ((List.range n).map G).map nV := by
  rw [List.map_map, List.map_map]
  rfl
theorem dec_nat (a b : Nat) : decide ((a : Int) = (b : Int)) = decide (a = b) := decide_eq_decide.mpr Int.ofNat_inj
noncomputable def sp_Cloth_row_at (c : Cs) : Sp := fun vs H Q _ => ∃ x n rs, ∃ k : Nat, vs = [.ref x, nV k] ∧ ClAt c.Cloth H x n rs ∧ 1 ≤ k ∧ k ≤ rs.length ∧ Q (nV (rs.getD (k - 1) 0)) H
noncomputable abbrev s_Cloth_row_at : Stmt := inClass (top 25) 4
theorem sc_Cloth_row_at : FnScope ["self", "pick"] ["self", "pick"] (defScope s_Cloth_row_at) := ⟨rfl, rfl, rfl, by decide +kernel, rfl, by decide +kernel, by decide +kernel⟩
theorem ok_Cloth_row_at {f : Addr} {fd : FuncData} (F : Fun K "row_at" "Cloth.row_at" s_Cloth_row_at f fd) (T : Txt K mg c) : FnOk P w K mg base CX0 1 f fd ["self", "pick"] (sp_Cloth_row_at c) := by
  refine F.ok sc_Cloth_row_at (fun vs H Q E h => ?_) (fun cdv A outer s H vs Q E hr h => ?_)
  · obtain ⟨x, n, rs, k, rfl, _⟩ := h
    rfl
  · obtain ⟨x, n, rs, k, rfl, ⟨dx, t, h1, h2⟩, k1, k2, q⟩ := h
    refine ⟨_, (pss_one (ps_ret (pe_ix (k_ixt (K := K)) (k_fld (K := K) (pv 0) rfl) (pe_op op_sub (pv 1) pe_int) (fun _ _ => rfl)))), ?_⟩
    (repeat (first | (with_reducible first | refine rd_op ?_ | refine rd_ret ?_ | refine rd_fld ?_) | (((with_reducible apply rd_var); exact rfl))))
    refine ⟨_, _, _, _, _, rfl, h1, T.kd_Cloth.cl, T.na_Cloth_rows, rfl, ?_⟩
    (repeat (first | (with_reducible first | refine rd_c ?_ | refine rd_op ?_ | refine rd_rI0 ?_) | (((with_reducible apply rd_var); exact rfl))))
    rw [show ((k : Nat) : Int) - 1 = ((k - 1 : Nat) : Int) by (first | assumption | decide | omega)]
    refine rd_ixT (SqT.of h2) (atI_natV (by (first | assumption | decide | omega)) (by (first | assumption | decide | omega))) ?_
    rw [Int.toNat_natCast]
    exact q
noncomputable abbrev Cl := Nat × List Nat
noncomputable abbrev cl0 : Cl := (0, [])
noncomputable def ClsAt (c : Cs) (H : Hp) (a : Addr) (cs : List Cl) : Prop := ∃ vs : List V, H a = some (.lst vs) ∧ vs.length = cs.length ∧ ∀ i, i < cs.length → ∃ x, vs.getD i .non = .ref x ∧ ClAt c.Cloth H x (cs.getD i cl0).1 (cs.getD i cl0).2
theorem ClsAt.same {c : Cs} {H H' : Hp} {a : Addr} {cs : List Cl} (h : ClsAt c H a cs) (s : Same H H') : ClsAt c H' a cs := by
  obtain ⟨vs, h1, h2, h3⟩ := h
  refine ⟨vs, s _ _ h1, h2, fun i hi => ?_⟩
  obtain ⟨x, e, C⟩ := h3 i hi
  exact ⟨x, e, C.same s⟩
noncomputable def likeB (cs : List Cl) : Bool := (List.range cs.length).all fun i => decide ((cs.getD i cl0).1 = (cs.getD 0 cl0).1) && decide ((cs.getD i cl0).2.length = (cs.getD 0 cl0).2.length)
theorem likeB_at {cs : List Cl} (h : likeB cs = true) {i : Nat} (hi : i < cs.length) : (cs.getD i cl0).1 = (cs.getD 0 cl0).1 ∧ (cs.getD i cl0).2.length = (cs.getD 0 cl0).2.length := by
  have := List.all_eq_true.mp h i (List.mem_range.mpr hi)
  simpa using this
noncomputable def sp_need_at_once (c : Cs) : Sp := fun vs H Q E => ∃ a cs, vs = [.ref a] ∧ ClsAt c H a cs ∧ 0 < cs.length ∧ cs.length ≤ 10 ∧ (likeB cs = true → ∀ H', Same H H' → Q .non H') ∧ (likeB cs = false → ∀ H', Same H H' → E (.ref c.BadCloth) none H')
noncomputable abbrev s_need_at_once : Stmt := top 27
theorem sc_need_at_once : FnScope ["cloths", "ends", "picks"] ["cloths"] (defScope s_need_at_once) := ⟨rfl, rfl, rfl, by decide +kernel, rfl, by decide +kernel, by decide +kernel⟩
theorem ok_need_at_once {f : Addr} {fd : FuncData} (F : Fun K "need_at_once" "need_at_once" s_need_at_once f fd) (T : Txt K mg c) (d_Cloth_ends : MethF P w K mg base c.Cloth "ends" 1 ["self"] (sp_Cloth_ends c)) (d_Cloth_picks : MethF P w K mg base c.Cloth "picks" 1 ["self"] (sp_Cloth_picks c)) : FnOk P w K mg base (CXE P w) 2 f fd ["cloths"] (sp_need_at_once c) := by
  refine Fun.okE F sc_need_at_once (fun vs H Q E h => ?_) (fun cdv A outer s H vs Q E hr h => ?_)
  · obtain ⟨a, cs, rfl, _⟩ := h
    rfl
  · obtain ⟨a, cs, rfl, ca, l0, l1, kq, ke⟩ := h
    obtain ⟨vs, ha, lv, el⟩ := id ca
    obtain ⟨x, ex, C0⟩ := el 0 l0
    obtain ⟨dx, tx, gx, _⟩ := id C0
    have hx0 : vs[0]? = some (.ref x) := by
      rw [List.getD_eq_getElem?_getD] at ex
      cases e : vs[0]? with
      | none => rw [e] at ex; cases ex
      | some v => rw [e] at ex; exact congrArg some ex
    refine ⟨_, (pss_cons (ps_if (pt_cmpR op_eq (pe_callB (k_len (K := K)) rfl (T.own _ (by decide)) boot_len (pa_cons (pv 0) pa_nil)) pe_int (nomark _)) (pss_one (ps_raiseK T.g_BadCloth T.xi_BadCloth (pa_cons pe_str pa_nil))) pss_nil)
      (pss_cons (ps_set (i := 1) sc_need_at_once.nd rfl (Or.inr rfl) (pe_methF0 (pe_ix (k_ixl (K := K)) (pv 0) pe_int (fun _ _ => rfl)) d_Cloth_ends hr))
      (pss_cons (ps_set (i := 2) sc_need_at_once.nd rfl (Or.inr rfl) (pe_methF0 (pe_ix (k_ixl (K := K)) (pv 0) pe_int (fun _ _ => rfl)) d_Cloth_picks hr))
      (pss_one (ps_if (pt_not (pt_val (pe_callB (k_all (K := K)) rfl (T.own _ (by decide)) boot_all' (pa_cons (pe_comp1 (k_pil (K := K) (pv 0)) (fun _ _ _ _ => pts_nil) (fun _ _ _ _ => (pe_and (pe_cmpR op_eq (pe_methF0 (pv 0) d_Cloth_ends hr) (pv 1) (nomark _)) (pe_one (pe_cmpR op_eq (pe_methF0 (pv 0) d_Cloth_picks hr) (pv 2) (nomark _)))))) pa_nil)))) (pss_one (ps_raiseK T.g_BadCloth T.xi_BadCloth (pa_cons pe_str pa_nil))) pss_nil))))), ?_⟩
    (repeat (first | (with_reducible first | refine rd_seq ?_ | refine rd_op ?_ | refine rd_test ?_ | refine rd_nil ?_ | refine rd_cons ?_ | refine rd_cb ?_) | (((with_reducible apply rd_var); exact rfl)) | (with_reducible refine rd_ifS ?_)))
    refine rd_lenL (SqL.of ha) ?_
    (repeat (first | (with_reducible first | refine rd_c ?_ | refine rd_eqI ?_ | refine rd_bl ?_)))
    rw [decide_eq_false (by (first | assumption | decide | omega))]
    (repeat (first | (with_reducible first | refine rd_seq ?_ | refine rd_asg ?_ | refine rd_c ?_ | refine rd_op ?_ | refine iteF ?_ | refine rd_next ?_ | refine rd_meth ?_) | (((with_reducible apply rd_var); exact rfl))))
    refine rd_ixL (SqL.of ha) (atI_nat (j := 0) hx0) ?_
    (skip)
    refine ⟨_, _, _, rfl, gx, rfl, ?_⟩
    (repeat (first | (with_reducible refine rd_nil ?_)))
    refine ⟨x, _, _, rfl, C0, ?_⟩
    (repeat (first | (with_reducible first | refine rd_seq ?_ | refine rd_asg ?_ | refine rd_name ?_ | refine rd_c ?_ | refine rd_op ?_ | refine rd_meth ?_) | (((with_reducible apply rd_var); exact rfl))))
    refine rd_ixL (SqL.of ha) (atI_nat (j := 0) hx0) ?_
    (skip)
    refine ⟨_, _, _, rfl, gx, rfl, ?_⟩
    (repeat (first | (with_reducible refine rd_nil ?_)))
    refine ⟨x, _, _, rfl, C0, ?_⟩
    (repeat (first | (with_reducible first | refine rd_name ?_ | refine rd_not ?_ | refine rd_tB ?_ | refine rd_cons ?_ | refine rd_cb ?_ | refine rd_comp ?_ | refine rd_iL ?_) | (((with_reducible apply rd_var); exact rfl)) | (with_reducible refine rd_ifS ?_)))
    refine ⟨a, rfl, ⟨_, SqL.of ha⟩, fun D hD => ?_⟩
    refine bls_comp (G := fun i => decide ((cs.getD i cl0).1 = (cs.getD 0 cl0).1) && decide ((cs.getD i cl0).2.length = (cs.getD 0 cl0).2.length)) (src_list (SqL.of ha) rfl) hD (by (first | assumption | decide | omega)) ?_ ?_
    · intro i H' R hi s kk
      obtain ⟨y, ey, Cy⟩ := el i (by (first | assumption | decide | omega))
      rw [ey]
      have Cy := Cy.same s
      obtain ⟨dy, ty, gy, _⟩ := id Cy
      (repeat (first | (with_reducible first | refine rd_op ?_ | refine rd_andV ?_ | refine rd_meth ?_) | (((with_reducible apply rd_var); exact rfl))))
      refine ⟨_, _, _, rfl, gy, rfl, ?_⟩
      (repeat (first | (with_reducible refine rd_nil ?_)))
      refine ⟨y, _, _, rfl, Cy, ?_⟩
      (repeat (first | (with_reducible first | refine rd_eqI ?_ | refine rd_bl ?_) | (((with_reducible apply rd_var); exact rfl))))
      by_cases e1 : (cs.getD i cl0).1 = (cs.getD 0 cl0).1
      · rw [decide_eq_true e1, Bool.true_and] at kk
        rw [decide_eq_true (by (first | assumption | decide | omega))]
        refine iteT ?_
        (repeat (first | (with_reducible first | refine rd_op ?_ | refine rd_meth ?_) | (((with_reducible apply rd_var); exact rfl))))
        refine ⟨_, _, _, rfl, gy, rfl, ?_⟩
        (repeat (first | (with_reducible refine rd_nil ?_)))
        refine ⟨y, _, _, rfl, Cy, ?_⟩
        (repeat (first | (with_reducible refine rd_eqI ?_) | (((with_reducible apply rd_var); exact rfl))))
        rw [dec_nat]
        exact kk H' (Same.refl _)
      · rw [decide_eq_false e1, Bool.false_and] at kk
        rw [decide_eq_false (by (first | assumption | decide | omega))]
        refine iteF ?_
        exact kk H' (Same.refl _)
    · intro H' s hl
      (repeat (first | (with_reducible refine rd_nil ?_)))
      refine rd_all (SqL.of hl) ?_
      (repeat (first | (with_reducible refine rd_bl ?_)))
      rw [lv, List.all_map]
      have el2 : (List.range cs.length).all (id ∘ fun i => decide ((cs.getD i cl0).1 = (cs.getD 0 cl0).1) && decide ((cs.getD i cl0).2.length = (cs.getD 0 cl0).2.length)) = likeB cs := rfl
      rw [el2]
      cases hb : likeB cs with
      | false =>
        refine iteT ?_
        exact ⟨by decide, ke hb H' s⟩
      | true =>
        refine iteF ?_
        (repeat (first | (with_reducible refine rd_next ?_)))
        exact kq hb H' s
noncomputable def upN (n row place own : Nat) : List Nat := if place = own then MM.nOf row else if place < own then MM.nOf (2 ^ n - 1) else []
theorem upN_at {n row place own e : Nat} (hr : row < 2 ^ n) (h : e ∈ upN n row place own) : 1 ≤ e ∧ e ≤ n := by
  unfold upN at h
  split at h
  · obtain ⟨h1, h2⟩ := (MM.nOf_mem _ _).mp h
    refine ⟨h1, ?_⟩
    rcases Nat.lt_or_ge (e - 1) n with z | z
    · first | assumption | decide | omega
    · rw [Nat.testBit_lt_two_pow (Nat.lt_of_lt_of_le hr (Nat.pow_le_pow_right (by decide) z))] at h2
      cases h2
  · split at h
    · obtain ⟨h1, h2⟩ := (MM.nOf_mem _ _).mp h
      rw [MM.full_bit] at h2
      have := of_decide_eq_true h2
      first | assumption | decide | omega
    · cases h
theorem upN_len {n row place own : Nat} (hr : row < 2 ^ n) : (upN n row place own).length ≤ n := by
  unfold upN
  split
  · exact MM.nOf_len hr
  · split
    · exact MM.nOf_len (by have := Nat.two_pow_pos n; omega)
    · exact Nat.zero_le _
noncomputable def sp_up_ends (c : Cs) : Sp := fun vs H Q _ => ∃ x n rs, ∃ pl p o : Nat, vs = [.ref x, nV pl, nV p, nV o] ∧ ClAt c.Cloth H x n rs ∧ ClOk n rs ∧ 1 ≤ p ∧ p ≤ rs.length ∧ ∀ H' l, Same H H' → H' l = some (.lst ((upN n (rs.getD (p - 1) 0) pl o).map nV)) → Q (.ref l) H'
noncomputable abbrev s_up_ends : Stmt := top 28
theorem sc_up_ends : FnScope ["cloth", "place", "pick", "own"] ["cloth", "place", "pick", "own"] (defScope s_up_ends) := ⟨rfl, rfl, rfl, by decide +kernel, rfl, by decide +kernel, by decide +kernel⟩
theorem ok_up_ends {f : Addr} {fd : FuncData} (F : Fun K "up_ends" "up_ends" s_up_ends f fd) (T : Txt K mg c) (c_numbers_of : CallF P w K mg base "numbers_of" 3 ["mask"] sp_numbers_of) (c_mask_to : CallF P w K mg base "mask_to" 1 ["most"] sp_mask_to) (d_Cloth_row_at : MethF P w K mg base c.Cloth "row_at" 1 ["self", "pick"] (sp_Cloth_row_at c)) (d_Cloth_ends : MethF P w K mg base c.Cloth "ends" 1 ["self"] (sp_Cloth_ends c)) : FnOk P w K mg base CX0 4 f fd ["cloth", "place", "pick", "own"] (sp_up_ends c) := by
  refine F.ok sc_up_ends (fun vs H Q E h => ?_) (fun cdv A outer s H vs Q E hr h => ?_)
  · obtain ⟨x, n, rs, pl, p, o, rfl, _⟩ := h
    rfl
  · obtain ⟨x, n, rs, pl, p, o, rfl, cx, ok, p1, p2, k⟩ := h
    obtain ⟨dx, tx, gx, _⟩ := id cx
    have n2 := ok.n2
    have hrow := ok.lt (rs.getD (p - 1) 0) (getD_mem (show p - 1 < rs.length by (first | assumption | decide | omega)))
    have hbig : ∀ m, m < 2 ^ n → m < 2 ^ 900 := fun m hm => Nat.lt_of_lt_of_le hm (Nat.pow_le_pow_right (by decide) (by (first | assumption | decide | omega)))
    refine ⟨_, (pss_cons (ps_if (pt_cmpR op_eq (pv 1) (pv 3) (nomark _)) (pss_one (ps_ret (pe_callF c_numbers_of hr (pa_cons (pe_methF (pv 0) d_Cloth_row_at (hr.mono (by decide)) (pa_cons (pv 2) pa_nil)) pa_nil)))) pss_nil)
      (pss_one (ps_ret (pe_ifExp (pt_cmpR op_lt (pv 1) (pv 3) (nomark _)) (pe_callF c_numbers_of hr (pa_cons (pe_callF c_mask_to (hr.mono (by decide)) (pa_cons (pe_methF0 (pv 0) d_Cloth_ends (hr.mono (by decide))) pa_nil)) pa_nil)) (pe_lst pa_nil))))), ?_⟩
    (repeat (first | (with_reducible first | refine rd_seq ?_ | refine rd_op ?_ | refine rd_eqI ?_ | refine rd_test ?_ | refine rd_bl ?_) | (((with_reducible apply rd_var); exact rfl)) | (with_reducible refine rd_ifS ?_)))
    unfold upN at k
    by_cases e1 : pl = o
    · rw [if_pos e1] at k
      rw [decide_eq_true (by (first | assumption | decide | omega))]
      (repeat (first | (with_reducible first | refine rd_ret ?_ | refine rd_cons ?_ | refine rd_call ?_ | refine iteT ?_ | refine rd_meth ?_) | (((with_reducible apply rd_var); exact rfl))))
      refine ⟨_, _, _, rfl, gx, rfl, ?_⟩
      (repeat (first | (with_reducible first | refine rd_nil ?_ | refine rd_cons ?_) | (((with_reducible apply rd_var); exact rfl))))
      refine ⟨x, n, rs, p, rfl, cx, p1, p2, ?_⟩
      (repeat (first | (with_reducible refine rd_nil ?_)))
      exact ⟨_, rfl, hbig _ hrow, fun H' l s _ g => k H' l s g⟩
    · rw [if_neg e1] at k
      rw [decide_eq_false (by (first | assumption | decide | omega))]
      (repeat (first | (with_reducible first | refine rd_op ?_ | refine rd_rI0 ?_ | refine rd_test ?_ | refine rd_bl ?_ | refine rd_if ?_ | refine rd_ret ?_ | refine iteF ?_ | refine rd_next ?_) | (((with_reducible apply rd_var); exact rfl))))
      by_cases e2 : pl < o
      · rw [if_pos e2] at k
        rw [decide_eq_true (by (first | assumption | decide | omega))]
        (repeat (first | (with_reducible first | refine rd_cons ?_ | refine rd_call ?_ | refine iteT ?_ | refine rd_meth ?_) | (((with_reducible apply rd_var); exact rfl))))
        refine ⟨_, _, _, rfl, gx, rfl, ?_⟩
        (repeat (first | (with_reducible refine rd_nil ?_)))
        refine ⟨x, n, rs, rfl, cx, ?_⟩
        (repeat (first | (with_reducible refine rd_nil ?_)))
        refine ⟨n, rfl, by (first | assumption | decide | omega), ?_⟩
        (repeat (first | (with_reducible refine rd_nil ?_)))
        exact ⟨_, rfl, hbig _ (by have := Nat.two_pow_pos n; omega), fun H' l s _ g => k H' l s g⟩
      · rw [if_neg e2] at k
        rw [decide_eq_false (by (first | assumption | decide | omega))]
        (repeat (first | (with_reducible first | refine rd_nil ?_ | refine rd_lst ?_ | refine iteF ?_) | (((with_reducible refine rd_len ?_ ?_); exact Nat.le_of_ble_eq_true rfl))))
        intro l hl
        exact k _ l (same_new hl) upd_same
noncomputable def wEnds (es : List Nat) (pl many : Nat) : Nat := MM.mOf (es.map fun e => (e - 1) * many + pl)
noncomputable def sp_whole_ends : Sp := fun vs H Q _ => ∃ a, ∃ es : List Nat, ∃ pl many : Nat, vs = [.ref a, nV pl, nV many] ∧ H a = some (.lst (es.map nV)) ∧ es.length ≤ 60 ∧ (∀ e ∈ es, 1 ≤ e ∧ e ≤ 60) ∧ 1 ≤ pl ∧ pl ≤ 10 ∧ many ≤ 10 ∧ ∀ H', Same H H' → Q (nV (wEnds es pl many)) H'
noncomputable abbrev s_whole_ends : Stmt := top 29
theorem sc_whole_ends : FnScope ["ends", "place", "many"] ["ends", "place", "many"] (defScope s_whole_ends) := ⟨rfl, rfl, rfl, by decide +kernel, rfl, by decide +kernel, by decide +kernel⟩
theorem ok_whole_ends {f : Addr} {fd : FuncData} (F : Fun K "whole_ends" "whole_ends" s_whole_ends f fd) (T : Txt K mg c) (c_mask_of : CallF P w K mg base "mask_of" 2 ["numbers"] (sp_mask_of K)) : FnOk P w K mg base CX0 3 f fd ["ends", "place", "many"] sp_whole_ends := by
  refine F.ok sc_whole_ends (fun vs H Q E h => ?_) (fun cdv A outer s H vs Q E hr h => ?_)
  · obtain ⟨a, es, pl, many, rfl, _⟩ := h
    rfl
  · obtain ⟨a, es, pl, many, rfl, ha, le, he, h1, h2, h3, k⟩ := h
    refine ⟨_, (pss_one (ps_ret (pe_callF c_mask_of hr (pa_cons (pe_comp1 (k_pil (K := K) (pv 0)) (fun _ _ _ _ => pts_nil) (fun _ _ _ _ => (pe_op op_add (pe_op op_mul (pe_op op_sub (pv 0) pe_int) (pv 1)) (pv 2)))) pa_nil)))), ?_⟩
    (repeat (first | (with_reducible first | refine rd_ret ?_ | refine rd_cons ?_ | refine rd_call ?_ | refine rd_comp ?_ | refine rd_iL ?_) | (((with_reducible apply rd_var); exact rfl))))
    refine ⟨a, rfl, ⟨_, SqL.of ha⟩, fun D hD => ?_⟩
    refine ints_comp (G := fun i => (((es.getD i 0 - 1) * many + pl : Nat) : Int)) (src_list (SqL.of ha) rfl) hD (by rw [List.length_map]; omega) ?_ ?_
    · intro i H' R hi s kk
      have hi' : i < es.length := by simpa using hi
      obtain ⟨a1, a2⟩ := he (es.getD i 0) (getD_mem hi')
      rw [getD_nat hi]
      (repeat (first | (with_reducible first | refine rd_c ?_ | refine rd_op ?_ | refine rd_rI0 ?_) | (((with_reducible apply rd_var); exact rfl))))
      refine rd_rI (.inl ⟨by (first | assumption | decide | omega), by (first | assumption | decide | omega)⟩) ?_
      (repeat (first | (with_reducible refine rd_rI0 ?_) | (((with_reducible apply rd_var); exact rfl))))
      rw [show ((es.getD i 0 : Nat) : Int) - 1 = ((es.getD i 0 - 1 : Nat) : Int) by (first | assumption | decide | omega), show ((es.getD i 0 - 1 : Nat) : Int) * ((many : Nat) : Int) + ((pl : Nat) : Int) = (((es.getD i 0 - 1) * many + pl : Nat) : Int) by push_cast; rfl]
      exact kk H' (Same.refl _)
    · intro H' s hl
      rw [natsL, List.length_map] at hl
      (repeat (first | (with_reducible refine rd_nil ?_)))
      refine ⟨false, D, _, rfl, SqL.of hl, fun v hv => ?_, fun H2 s2 => ?_⟩
      · obtain ⟨i, hi, rfl⟩ := List.mem_map.mp hv
        obtain ⟨a1, a2⟩ := he (es.getD i 0) (getD_mem (List.mem_range.mp hi))
        have : (es.getD i 0 - 1) * many ≤ 60 * 10 := Nat.mul_le_mul (by (first | assumption | decide | omega)) h3
        first | assumption | decide | omega
      · have e := map_range_getD (fun e => (e - 1) * many + pl) es 0
        rw [e]
        exact k H2 (s.trans s2)
end
end K27
open L2
namespace K27
open PySem L2 PySem.Spec PyProof.Rows
seal L2.PE L2.PT L2.PW L2.PA L2.PS L2.PSs L2.PI L2.PG L2.PTs L2.PGs
section
variable {P : Program} {w : World} {K : PySem.W.Frag} {mg : Str → Option Value} {base : Heap} {c : Cs}
noncomputable def wRow (cs : List Cl) (p o : Nat) : Nat := MM.uOf ((List.range cs.length).map fun i => wEnds (upN (cs.getD i cl0).1 ((cs.getD i cl0).2.getD p 0) (i + 1) o) (i + 1) cs.length)
noncomputable def ClsOk (cs : List Cl) : Prop := ∀ i, i < cs.length → ClOk (cs.getD i cl0).1 (cs.getD i cl0).2
noncomputable def sp_whole_row (c : Cs) : Sp := fun vs H Q _ => ∃ a cs, ∃ p o : Nat, vs = [.ref a, nV p, nV o] ∧ ClsAt c H a cs ∧ ClsOk cs ∧ cs.length ≤ 10 ∧ 1 ≤ p ∧ (∀ i, i < cs.length → p ≤ (cs.getD i cl0).2.length) ∧ ∀ H', Same H H' → Q (nV (wRow cs (p - 1) o)) H'
noncomputable abbrev s_whole_row : Stmt := top 30
theorem sc_whole_row : FnScope ["cloths", "pick", "own", "many"] ["cloths", "pick", "own"] (defScope s_whole_row) := ⟨rfl, rfl, rfl, by decide +kernel, rfl, by decide +kernel, by decide +kernel⟩
theorem ok_whole_row {f : Addr} {fd : FuncData} (F : Fun K "whole_row" "whole_row" s_whole_row f fd) (T : Txt K mg c) (c_union_of : CallF P w K mg base "union_of" 1 ["masks"] (sp_union_of K)) (c_whole_ends : CallF P w K mg base "whole_ends" 3 ["ends", "place", "many"] sp_whole_ends) (c_up_ends : CallF P w K mg base "up_ends" 4 ["cloth", "place", "pick", "own"] (sp_up_ends c)) : FnOk P w K mg base CX0 5 f fd ["cloths", "pick", "own"] (sp_whole_row c) := by
  refine F.ok sc_whole_row (fun vs H Q E h => ?_) (fun cdv A outer s H vs Q E hr h => ?_)
  · obtain ⟨a, cs, p, o, rfl, _⟩ := h
    rfl
  · obtain ⟨a, cs, p, o, rfl, ca, ok, l1, p1, p2, k⟩ := h
    obtain ⟨vs, ha, lv, el⟩ := id ca
    refine ⟨_, (pss_cons (ps_set (i := 3) sc_whole_row.nd rfl (Or.inr rfl) (pe_callB (k_len (K := K)) rfl (T.own _ (by decide)) boot_len (pa_cons (pv 0) pa_nil)))
      (pss_one (ps_ret (pe_callF c_union_of (hr.mono (by decide)) (pa_cons (pe_comp2 (K := K) (pi_enumS (K := K) rfl (T.own _ (by decide)) (pa_cons (pv 0) pa_nil)) (fun _ _ _ _ => pts_nil) (fun _ _ _ _ => (pe_callF c_whole_ends (hr.mono (by decide)) (pa_cons (pe_callF c_up_ends hr (pa_cons (pv 1) (pa_cons (pv 0) (pa_cons (pv 4) (pa_cons (pv 3) pa_nil))))) (pa_cons (pv 0) (pa_cons (pv 2) pa_nil)))))) pa_nil))))), ?_⟩
    (repeat (first | (with_reducible first | refine rd_seq ?_ | refine rd_asg ?_ | refine rd_nil ?_ | refine rd_cons ?_ | refine rd_cb ?_) | (((with_reducible apply rd_var); exact rfl))))
    refine rd_lenL (SqL.of ha) ?_
    (repeat (first | (with_reducible first | refine rd_name ?_ | refine rd_ret ?_ | refine rd_nil ?_ | refine rd_cons ?_ | refine rd_call ?_ | refine rd_comp ?_ | refine rd_iF ?_) | (((with_reducible apply rd_var); exact rfl))))
    refine ⟨false, a, rfl, ⟨_, SqL.of ha⟩, fun D hD => ?_⟩
    refine ints_comp (G := fun i => ((wEnds (upN (cs.getD i cl0).1 ((cs.getD i cl0).2.getD (p - 1) 0) (i + 1) o) (i + 1) cs.length : Nat) : Int)) (src_enumS (tp := false) (SqL.of ha) rfl rfl) hD (by (first | assumption | decide | omega)) ?_ ?_
    · intro i H' R hi s kk
      have hi' : i < cs.length := by (first | assumption | decide | omega)
      obtain ⟨x, ex, Cx⟩ := el i hi'
      have okx := ok i hi'
      have n2 := okx.n2
      rw [ex]
      (repeat (first | (with_reducible first | refine rd_nil ?_ | refine rd_cons ?_ | refine rd_call ?_) | (((with_reducible apply rd_var); exact rfl))))
      refine ⟨x, _, _, i + 1, p, o, rfl, Cx.same s, okx, p1, p2 i hi', fun H3 l s3 g3 => ?_⟩
      (repeat (first | (with_reducible first | refine rd_nil ?_ | refine rd_cons ?_) | (((with_reducible apply rd_var); exact rfl))))
      rw [lv]
      have hrow := okx.lt ((cs.getD i cl0).2.getD (p - 1) 0) (getD_mem (by have := p2 i hi'; omega))
      refine ⟨l, _, i + 1, cs.length, rfl, g3, Nat.le_trans (upN_len hrow) n2, fun e he => ?_, by (first | assumption | decide | omega), by (first | assumption | decide | omega), l1, fun H4 s4 => kk H4 (s3.trans s4)⟩
      obtain ⟨a1, a2⟩ := upN_at hrow he
      first | assumption | decide | omega
    · intro H' s hl
      rw [natsL, lv] at hl
      (repeat (first | (with_reducible refine rd_nil ?_)))
      refine ⟨false, D, _, rfl, SqL.of hl, fun H2 s2 => ?_⟩
      exact k H2 (s.trans s2)
noncomputable def wRows (cs : List Cl) : Nat → List Nat
  | 0 => []
  | i + 1 => wRows cs i ++ (List.range cs.length).map fun j => wRow cs i (j + 1)
theorem wRows_len (cs : List Cl) : ∀ i, (wRows cs i).length = i * cs.length
  | 0 => by simp [wRows]
  | i + 1 => by
    show (wRows cs i ++ _).length = _
    rw [List.length_append, wRows_len cs i, List.length_map, List.length_range, Nat.succ_mul]
noncomputable def wBit (cs : List Cl) (p o t : Nat) : Bool := decide (t % cs.length < o) || (decide (t % cs.length = o) && ((cs.getD o cl0).2.getD p 0).testBit (t / cs.length))
theorem upN_mem {n row pl own e : Nat} : e ∈ upN n row pl own ↔ 1 ≤ e ∧ ((pl = own ∧ row.testBit (e - 1) = true) ∨ (pl < own ∧ e ≤ n)) := by
  unfold upN
  by_cases h1 : pl = own
  · rw [if_pos h1, MM.nOf_mem]
    constructor
    · rintro ⟨a, b⟩
      exact ⟨a, .inl ⟨h1, b⟩⟩
    · rintro ⟨a, b | b⟩
      · exact ⟨a, b.2⟩
      · first | assumption | decide | omega
  · rw [if_neg h1]
    by_cases h2 : pl < own
    · rw [if_pos h2, MM.nOf_mem, MM.full_bit, decide_eq_true_eq]
      constructor
      · rintro ⟨a, b⟩
        exact ⟨a, .inr ⟨h2, by (first | assumption | decide | omega)⟩⟩
      · rintro ⟨a, b | b⟩
        · exact absurd b.1 h1
        · exact ⟨a, by (first | assumption | decide | omega)⟩
    · rw [if_neg h2]
      constructor
      · intro h; cases h
      · rintro ⟨a, b | b⟩
        · exact absurd b.1 h1
        · exact absurd b.1 h2
theorem wRow_bit {cs : List Cl} {n p o t : Nat} (hn : ∀ i, i < cs.length → (cs.getD i cl0).1 = n) (h0 : 0 < cs.length) (ht : t < n * cs.length) : (wRow cs p (o + 1)).testBit t = wBit cs p o t := by
  have hd : t / cs.length < n := by rw [Nat.div_lt_iff_lt_mul h0]; exact ht
  have hm := Nat.mod_lt t h0
  unfold wRow wBit
  rw [MM.uOf_bit, List.any_map, Bool.eq_iff_iff, List.any_eq_true]
  have one : ∀ i, i < cs.length → ((wEnds (upN (cs.getD i cl0).1 ((cs.getD i cl0).2.getD p 0) (i + 1) (o + 1)) (i + 1) cs.length).testBit t = true ↔ i = t % cs.length ∧ (t / cs.length + 1) ∈ upN (cs.getD i cl0).1 ((cs.getD i cl0).2.getD p 0) (i + 1) (o + 1)) := fun i hi => by
    unfold wEnds
    rw [MM.mOf_bit, List.any_map, List.any_eq_true]
    constructor
    · rintro ⟨e, he, h⟩
      have h : (e - 1) * cs.length + (i + 1) - 1 = t := of_decide_eq_true h
      have e1 := (upN_mem.mp he).1
      have h' : cs.length * (e - 1) + i = t := by rw [Nat.mul_comm]; omega
      have d1 : t / cs.length = e - 1 := by rw [← h', Nat.mul_add_div h0, Nat.div_eq_of_lt hi, Nat.add_zero]
      have d2 : t % cs.length = i := by rw [← h', Nat.mul_add_mod, Nat.mod_eq_of_lt hi]
      refine ⟨d2.symm, ?_⟩
      rw [d1, show e - 1 + 1 = e by (first | assumption | decide | omega)]
      exact he
    · rintro ⟨rfl, he⟩
      refine ⟨_, he, decide_eq_true ?_⟩
      show (t / cs.length + 1 - 1) * cs.length + (t % cs.length + 1) - 1 = t
      have := Nat.div_add_mod t cs.length
      rw [Nat.mul_comm] at this
      rw [Nat.add_sub_cancel]
      first | assumption | decide | omega
  rw [Bool.or_eq_true, Bool.and_eq_true, decide_eq_true_eq, decide_eq_true_eq]
  constructor
  · rintro ⟨i, hi, h⟩
    obtain ⟨e, he⟩ := (one i (List.mem_range.mp hi)).mp h
    obtain ⟨_, h | h⟩ := upN_mem.mp he
    · refine .inr ⟨by (first | assumption | decide | omega), ?_⟩
      have : i = o := by (first | assumption | decide | omega)
      subst this
      simpa using h.2
    · exact .inl (by (first | assumption | decide | omega))
  · rintro (h | ⟨h1, h2⟩)
    · refine ⟨t % cs.length, List.mem_range.mpr hm, (one _ hm).mpr ⟨rfl, upN_mem.mpr ⟨Nat.le_add_left 1 _, .inr ⟨by (first | assumption | decide | omega), ?_⟩⟩⟩⟩
      rw [hn _ hm]
      first | assumption | decide | omega
    · refine ⟨t % cs.length, List.mem_range.mpr hm, (one _ hm).mpr ⟨rfl, upN_mem.mpr ⟨Nat.le_add_left 1 _, .inl ⟨by (first | assumption | decide | omega), ?_⟩⟩⟩⟩
      rw [h1]
      simpa using h2
theorem wRow_lt {cs : List Cl} {n p o : Nat} (hn : ∀ i, i < cs.length → (cs.getD i cl0).1 = n) (hr : ∀ i, i < cs.length → (cs.getD i cl0).2.getD p 0 < 2 ^ n) : wRow cs p o < 2 ^ (n * cs.length) := by
  refine Nat.lt_pow_two_of_testBit _ fun t ht => ?_
  unfold wRow
  rw [MM.uOf_bit, List.any_map, List.any_eq_false]
  intro i hi
  have hi := List.mem_range.mp hi
  show ¬ (wEnds (upN (cs.getD i cl0).1 ((cs.getD i cl0).2.getD p 0) (i + 1) o) (i + 1) cs.length).testBit t = true
  unfold wEnds
  rw [MM.mOf_bit, List.any_map, List.any_eq_true]
  rintro ⟨e, he, h⟩
  have h : (e - 1) * cs.length + (i + 1) - 1 = t := of_decide_eq_true h
  rw [hn i hi] at he
  obtain ⟨a1, a2⟩ := upN_at (hr i hi) he
  have : (e - 1 + 1) * cs.length ≤ n * cs.length := Nat.mul_le_mul_right _ (by (first | assumption | decide | omega))
  rw [Nat.succ_mul] at this
  first | assumption | decide | omega
theorem wRows_lt {cs : List Cl} {n P : Nat} (hn : ∀ i, i < cs.length → (cs.getD i cl0).1 = n) (hr : ∀ p i, p < P → i < cs.length → (cs.getD i cl0).2.getD p 0 < 2 ^ n) : ∀ m, m ≤ P → ∀ r ∈ wRows cs m, r < 2 ^ (n * cs.length)
  | 0, _, r, h => by cases h
  | m + 1, hm, r, h => by
    rcases List.mem_append.mp h with h | h
    · exact wRows_lt hn hr m (by (first | assumption | decide | omega)) r h
    · obtain ⟨j, hj, rfl⟩ := List.mem_map.mp h
      exact wRow_lt hn fun i hi => hr m i (by (first | assumption | decide | omega)) hi
noncomputable def wFit (cs : List Cl) : Bool := likeB cs && decide ((cs.getD 0 cl0).1 * cs.length ≤ 60) && decide ((cs.getD 0 cl0).2.length * cs.length ≤ 60)
noncomputable def sp_woven_at_once (c : Cs) : Sp := fun vs H Q E => ∃ a cs, vs = [.ref a] ∧ ClsAt c H a cs ∧ ClsOk cs ∧ 0 < cs.length ∧ cs.length ≤ 10 ∧
  (wFit cs = true → ∀ H' u, Same H H' → H u = none → ClAt c.Cloth H' u ((cs.getD 0 cl0).1 * cs.length) (wRows cs (cs.getD 0 cl0).2.length) → Q (.ref u) H') ∧ (wFit cs = false → ∀ H', Same H H' → E (.ref c.BadCloth) none H')
noncomputable abbrev s_woven_at_once : Stmt := top 31
theorem sc_woven_at_once : FnScope ["cloths", "rows", "pick"] ["cloths"] (defScope s_woven_at_once) := ⟨rfl, rfl, rfl, by decide +kernel, rfl, by decide +kernel, by decide +kernel⟩
theorem ok_woven_at_once {f : Addr} {fd : FuncData} (F : Fun K "woven_at_once" "woven_at_once" s_woven_at_once f fd) (T : Txt K mg c) (c_need_at_once : CallE P w K mg base "need_at_once" 2 ["cloths"] (sp_need_at_once c)) (c_whole_row : CallF P w K mg base "whole_row" 5 ["cloths", "pick", "own"] (sp_whole_row c)) (m_Cloth : MakeE P w K mg base "Cloth" c.Cloth 4 ["self", "ends", "rows"] (sp_Cloth___init__ K c)) (d_Cloth_ends : MethF P w K mg base c.Cloth "ends" 1 ["self"] (sp_Cloth_ends c)) (d_Cloth_picks : MethF P w K mg base c.Cloth "picks" 1 ["self"] (sp_Cloth_picks c)) : FnOk P w K mg base (CXE P w) 6 f fd ["cloths"] (sp_woven_at_once c) := by
  refine Fun.okE F sc_woven_at_once (fun vs H Q E h => ?_) (fun cdv A outer s H vs Q E hr h => ?_)
  · obtain ⟨a, cs, rfl, _⟩ := h
    rfl
  · obtain ⟨a, cs, rfl, ca, ok, l0, l1, kq, ke⟩ := h
    obtain ⟨vs, ha, lv, el⟩ := id ca
    obtain ⟨x, ex, C0⟩ := el 0 l0
    obtain ⟨dx, tx, gx, _⟩ := id C0
    have hx0 : vs[0]? = some (.ref x) := by
      rw [List.getD_eq_getElem?_getD] at ex
      cases e : vs[0]? with
      | none => rw [e] at ex; cases ex
      | some v => rw [e] at ex; exact congrArg some ex
    have ok0 := ok 0 l0
    have n2 := ok0.n2
    have p2 := ok0.p2
    refine ⟨_, (pss_cons (ps_expr (pe_callE c_need_at_once (hr.mono (by decide)) passE (pa_cons (pv 0) pa_nil)))
      (pss_cons (ps_set (i := 1) sc_woven_at_once.nd rfl (Or.inl rfl) (pe_lst pa_nil))
      (pss_cons (ps_for PassesOwn.leaving rfl (pi_range2 rfl (T.own _ (by decide)) (pa_cons pe_int (pa_cons (pe_op op_add (pe_methF0 (pe_ix (k_ixl (K := K)) (pv 0) pe_int (fun _ _ => rfl)) d_Cloth_picks (hr.mono (by decide))) pe_int) pa_nil))) (pg_name (i := 2) sc_woven_at_once.nd rfl (Or.inr rfl)) (pss_one (ps_expr (kx_bm (K := K) PySem.F.plainAttrs_list PySem.F.slot_list_extend PySem.F.type_list_extend mt_extend (pv 1) (pa_cons (pe_comp1 (pi_range2 rfl (T.own _ (by decide)) (pa_cons pe_int (pa_cons (pe_op op_add (pe_callB (k_len (K := K)) rfl (T.own _ (by decide)) boot_len (pa_cons (pv 0) pa_nil)) pe_int) pa_nil))) (fun _ _ _ _ => pts_nil) (fun _ _ _ _ => (pe_callF c_whole_row hr (pa_cons (pv 1) (pa_cons (pv 2) (pa_cons (pv 0) pa_nil)))))) pa_nil)))))
      (pss_one (ps_ret (pe_makeE m_Cloth hr passE (pa_cons (pe_op op_mul (pe_methF0 (pe_ix (k_ixl (K := K)) (pv 0) pe_int (fun _ _ => rfl)) d_Cloth_ends (hr.mono (by decide))) (pe_callB (k_len (K := K)) rfl (T.own _ (by decide)) boot_len (pa_cons (pv 0) pa_nil))) (pa_cons (pv 1) pa_nil)))))))), ?_⟩
    (repeat (first | (with_reducible first | refine rd_seq ?_ | refine rd_drop ?_ | refine rd_nil ?_ | refine rd_cons ?_ | refine rd_call ?_) | (((with_reducible apply rd_var); exact rfl))))
    refine ⟨a, cs, rfl, ca, l0, l1, fun like H1 s1 => ?_, fun bad H1 s1 => ke (by unfold wFit; rw [bad]; rfl) H1 s1⟩
    have hL : ∀ i, i < cs.length → (cs.getD i cl0).1 = (cs.getD 0 cl0).1 ∧ (cs.getD i cl0).2.length = (cs.getD 0 cl0).2.length := fun i hi => likeB_at like hi
    generalize hN : (cs.getD 0 cl0).1 = N at *
    generalize hP : (cs.getD 0 cl0).2 = R0 at *
    (repeat (first | (with_reducible first | refine rd_seq ?_ | refine rd_asg ?_ | refine rd_nil ?_ | refine rd_lst ?_) | (((with_reducible refine rd_len ?_ ?_); exact Nat.le_of_ble_eq_true rfl))))
    intro q hq
    have s2 := same_new (o := HO.lst []) hq
    have g2 : upd H1 q (HO.lst []) q = some (.lst ((wRows cs 0).map nV)) := upd_same
    generalize upd H1 q (HO.lst []) = H2 at s2 g2 ⊢
    have s12 := s1.trans s2
    (repeat (first | (with_reducible first | refine rd_seq ?_ | refine rd_name ?_ | refine rd_c ?_ | refine rd_op ?_ | refine rd_cons ?_ | refine rd_for ?_ | refine rd_i2 ?_ | refine rd_meth ?_) | (((with_reducible apply rd_var); exact rfl))))
    refine rd_ixL (SqL.of (s12 _ _ ha)) (atI_nat (j := 0) hx0) ?_
    (skip)
    refine ⟨_, _, _, rfl, s12 _ _ gx, rfl, ?_⟩
    (repeat (first | (with_reducible refine rd_nil ?_)))
    refine ⟨x, _, _, rfl, C0.same s12, ?_⟩
    (repeat (first | (with_reducible first | refine rd_c ?_ | refine rd_rI0 ?_ | refine rd_nil ?_)))
    refine ⟨_, _, rfl, ⟨by decide, by decide, by (first | assumption | decide | omega), by (first | assumption | decide | omega)⟩, ?_⟩
    rw [show (((R0.length : Nat) : Int) + 1 - 1).toNat = R0.length by (first | assumption | decide | omega)]
    refine for_srcW (H0 := H1) (fs_range (n := R0.length)) (fun i σ H3 => ∃ u, σ = [some (.ref a), some (.ref q), u] ∧ Same H1 H3 ∧ H3 q = some (.lst ((wRows cs i).map nV)) ∧ i ≤ R0.length) ⟨_, rfl, s2, g2, Nat.zero_le _⟩ (fun i σ H3 ⟨_, _, s, _⟩ => s) ?_ ?_
    · rintro i σ H' H3 hi ⟨u, rfl, s', g', _⟩ s3
      have sH := s'.trans s3
      have sH0 := s1.trans sH
      rw [show (1 : Int) + ((i : Nat) : Int) = ((i + 1 : Nat) : Int) by (first | assumption | decide | omega)]
      (repeat (first | (with_reducible first | refine rd_drop ?_ | refine rd_bm ?_) | (((with_reducible apply rd_var); exact rfl))))
      refine tyL (SqL.of (s3 _ _ g')) ?_
      (repeat (first | (with_reducible first | refine rd_c ?_ | refine rd_op ?_ | refine rd_nil ?_ | refine rd_cons ?_ | refine rd_cb ?_ | refine rd_comp ?_ | refine rd_i2 ?_) | (((with_reducible apply rd_var); exact rfl))))
      refine rd_lenL (SqL.of (sH0 _ _ ha)) ?_
      (repeat (first | (with_reducible first | refine rd_c ?_ | refine rd_rI0 ?_ | refine rd_nil ?_)))
      refine ⟨_, _, rfl, ⟨by decide, by decide, by (first | assumption | decide | omega), by (first | assumption | decide | omega)⟩, fun D hD => ?_⟩
      rw [show (((vs.length : Nat) : Int) + 1 - 1).toNat = cs.length by (first | assumption | decide | omega)]
      refine ints_comp (G := fun j => ((wRow cs i (j + 1) : Nat) : Int)) (src_range rfl) hD (by (first | assumption | decide | omega)) ?_ ?_
      · intro j H4 R hj s4 kk
        rw [show (1 : Int) + ((j : Nat) : Int) = ((j + 1 : Nat) : Int) by (first | assumption | decide | omega)]
        (repeat (first | (with_reducible first | refine rd_nil ?_ | refine rd_cons ?_ | refine rd_call ?_) | (((with_reducible apply rd_var); exact rfl))))
        refine ⟨a, cs, i + 1, j + 1, rfl, ca.same (sH0.trans s4), ok, l1, by (first | assumption | decide | omega), fun i' hi' => ?_, fun H5 s5 => ?_⟩
        · rw [(hL i' hi').2]
          first | assumption | decide | omega
        · rw [show i + 1 - 1 = i by (first | assumption | decide | omega)]
          exact kk H5 s5
      intro H4 s4 hl4
      rw [natsL] at hl4
      (repeat (first | (with_reducible refine rd_nil ?_)))
      have g4 := s4 _ _ (s3 _ _ g')
      have lg : (wRows cs i).length ≤ 600 := by
        rw [wRows_len]
        exact Nat.mul_le_mul (by (first | assumption | decide | omega) : i ≤ 60) l1
      refine rd_ext g4 hl4 (by simp; omega) ?_
      (skip)
      refine ⟨_, rfl, fun b o e => ?_, ?_, by (first | assumption | decide | omega)⟩
      · rw [upd_ne (fun z => by rw [z, hq] at e; cases e)]
        exact s4 _ _ (sH _ _ e)
      · rw [upd_same, ← List.map_append]
        rfl
    · rintro σ H3 ⟨u, rfl, s3, g3, _⟩
      have s03 := s1.trans s3
      (repeat (first | (with_reducible refine rd_ret ?_)))
      refine rd_makeE ?_
      (repeat (first | (with_reducible first | refine rd_c ?_ | refine rd_op ?_ | refine rd_cons ?_ | refine rd_meth ?_) | (((with_reducible apply rd_var); exact rfl))))
      refine rd_ixL (SqL.of (s03 _ _ ha)) (atI_nat (j := 0) hx0) ?_
      (skip)
      refine ⟨_, _, _, rfl, s03 _ _ gx, rfl, ?_⟩
      (repeat (first | (with_reducible refine rd_nil ?_)))
      refine ⟨x, _, _, rfl, C0.same s03, ?_⟩
      (repeat (first | (with_reducible first | refine rd_nil ?_ | refine rd_cons ?_ | refine rd_cb ?_) | (((with_reducible apply rd_var); exact rfl))))
      refine rd_lenL (SqL.of (s03 _ _ ha)) ?_
      (skip)
      rw [lv]
      refine rd_rI (.inl ⟨by (first | assumption | decide | omega), by (first | assumption | decide | omega)⟩) ?_
      rw [show ((N : Nat) : Int) * ((cs.length : Nat) : Int) = ((N * cs.length : Nat) : Int) by push_cast; rfl]
      (repeat (first | (with_reducible first | refine rd_nil ?_ | refine rd_cons ?_) | (((with_reducible apply rd_var); exact rfl))))
      have lr := wRows_len cs R0.length
      have n1 := ok0.n1
      have p1 := ok0.p1
      have m1 : 1 ≤ N * cs.length := Nat.mul_pos n1 l0
      have m2 : 1 ≤ R0.length * cs.length := Nat.mul_pos p1 l0
      have wf : wFit cs = (decide (N * cs.length ≤ 60) && decide (R0.length * cs.length ≤ 60)) := by
        unfold wFit
        rw [like, hN, hP, Bool.true_and]
      by_cases hw : N * cs.length ≤ 60
      · by_cases hh : R0.length * cs.length ≤ 60
        · have okg : ClOk (N * cs.length) (wRows cs R0.length) := ⟨m1, hw, by (first | assumption | decide | omega), by (first | assumption | decide | omega), wRows_lt (P := R0.length) (fun i hi => (hL i hi).1) (fun p i hp hi => by
            have := (ok i hi).lt ((cs.getD i cl0).2.getD p 0) (getD_mem (by rw [(hL i hi).2]; exact hp))
            rw [(hL i hi).1] at this
            exact this) _ (Nat.le_refl _)⟩
          exact cl_make g3 okg fun H4 v s4 hv C4 => kq (by rw [wf, decide_eq_true hw, decide_eq_true hh]; rfl) H4 v (s03.trans s4) (s03.free hv) C4
        · exact cl_bad (.many m1 hw g3 (.inr (by rw [List.length_map, lr]; omega))) fun H4 s4 => ke (by rw [wf, decide_eq_false hh, Bool.and_false]) H4 (s03.trans s4)
      · refine cl_bad (.ends ⟨_, .int _⟩ ?_) fun H4 s4 => ke (by rw [wf, decide_eq_false hw, Bool.false_and]) H4 (s03.trans s4)
        show (decide ((1 : Int) ≤ (N * cs.length : Nat)) && decide (((N * cs.length : Nat) : Int) ≤ 60)) = false
        rw [Bool.and_eq_false_iff, decide_eq_false_iff_not, decide_eq_false_iff_not]
        first | assumption | decide | omega
end
end K27
open L2
namespace K27
open PySem L2 PySem.Spec PyProof.Rows
seal L2.PE L2.PT L2.PW L2.PA L2.PS L2.PSs L2.PI L2.PG L2.PTs L2.PGs
section
variable {P : Program} {w : World} {K : PySem.W.Frag} {mg : Str → Option Value} {base : Heap} {c : Cs}
noncomputable def mixV (x k : Int) : Int := (x % 1000000007 + 7919 * k + 13) * (x % 1000000007 + 7919 * k + 13) % 1000000007 * 48271 % 2147483647
noncomputable def sp__law_mixed : Sp := fun vs H Q _ => ∃ x k : Int, vs = [.int x, .int k] ∧ (0 ≤ k ∧ k ≤ 1000) ∧ Q (.int (mixV x k)) H
noncomputable abbrev s__law_mixed : Stmt := top 33
theorem sc__law_mixed : FnScope ["_law_cell", "_law_k"] ["_law_cell", "_law_k"] (defScope s__law_mixed) := ⟨rfl, rfl, rfl, by decide +kernel, rfl, by decide +kernel, by decide +kernel⟩
theorem ok__law_mixed {f : Addr} {fd : FuncData} (F : Fun K "_law_mixed" "_law_mixed" s__law_mixed f fd) (T : Txt K mg c) : FnOk P w K mg base CX0 1 f fd ["_law_cell", "_law_k"] sp__law_mixed := by
  refine F.ok sc__law_mixed (fun vs H Q E h => ?_) (fun cdv A outer s H vs Q E hr h => ?_)
  · obtain ⟨x, k, rfl, _⟩ := h
    rfl
  · obtain ⟨x, k, rfl, hk, q⟩ := h
    refine ⟨_, (pss_cons (ps_set (i := 0) sc__law_mixed.nd rfl (Or.inl rfl) (pe_op op_add (pe_op op_add (pe_op op_mod (pv 0) pe_int) (pe_op op_mul pe_int (pv 1))) pe_int))
      (pss_one (ps_ret (pe_op op_mod (pe_op op_mul (pe_op op_mod (pe_op op_mul (pv 0) (pv 0)) pe_int) pe_int) pe_int)))), ?_⟩
    have b1 := Int.emod_nonneg x (show (1000000007 : Int) ≠ 0 by decide)
    have b2 := Int.emod_lt_of_pos x (show (0 : Int) < 1000000007 by decide)
    (repeat (first | (with_reducible first | refine rd_seq ?_ | refine rd_asg ?_ | refine rd_c ?_ | refine rd_op ?_) | (((with_reducible apply rd_var); exact rfl))))
    refine rd_rI (by decide) ?_
    (repeat (first | (with_reducible first | refine rd_c ?_ | refine rd_op ?_) | (((with_reducible apply rd_var); exact rfl))))
    refine rd_rI (.inl ⟨by decide, by decide⟩) ?_
    (repeat (first | (with_reducible first | refine rd_name ?_ | refine rd_c ?_ | refine rd_op ?_ | refine rd_rI0 ?_ | refine rd_ret ?_) | (((with_reducible apply rd_var); exact rfl))))
    refine rd_rI (.inl ⟨?_, ?_⟩) ?_
    · show -(2 ^ 64) < x % 1000000007 + 7919 * k + 13
      first | assumption | decide | omega
    · show x % 1000000007 + 7919 * k + 13 < 2 ^ 64
      first | assumption | decide | omega
    (repeat (first | (with_reducible refine rd_c ?_)))
    refine rd_rI (by decide) ?_
    (repeat (first | (with_reducible refine rd_c ?_)))
    refine rd_rI (.inr ⟨by decide, by decide⟩) ?_
    (repeat (first | (with_reducible refine rd_c ?_)))
    refine rd_rI (by decide) ?_
    exact q
noncomputable def sp__law_kinds (c : Cs) : Sp := fun vs H Q _ => ∃ a, vs = [.ref a] ∧ H a = some (excO a c.BadCloth) ∧ ∀ H' l, Same H H' → H l = none → H' l = some (.lst [.str "cloth"]) → Q (.ref l) H'
noncomputable abbrev s__law_kinds : Stmt := top 34
theorem sc__law_kinds : FnScope ["_law_error", "_law_kinds_here"] ["_law_error"] (defScope s__law_kinds) := ⟨rfl, rfl, rfl, by decide +kernel, rfl, by decide +kernel, by decide +kernel⟩
theorem ok__law_kinds {f : Addr} {fd : FuncData} (F : Fun K "_law_kinds" "_law_kinds" s__law_kinds f fd) (T : Txt K mg c) : FnOk P w K mg base CX0 1 f fd ["_law_error"] (sp__law_kinds c) := by
  refine F.ok sc__law_kinds (fun vs H Q E h => ?_) (fun cdv A outer s H vs Q E hr h => ?_)
  · obtain ⟨a, rfl, _⟩ := h
    rfl
  · obtain ⟨a, rfl, ha, k⟩ := h
    refine ⟨_, (pss_cons (ps_set (i := 1) sc__law_kinds.nd rfl (Or.inl rfl) (pe_lst (pa_cons (pe_tup (pa_cons pe_str (pa_cons (pe_callB (k_isinE (K := K)) rfl (T.own _ (by decide)) boot_isinstance (pa_cons (pv 0) (pa_cons (pe_gC T.g_BadRow) pa_nil))) pa_nil))) (pa_cons (pe_tup (pa_cons pe_str (pa_cons (pe_callB (k_isinE (K := K)) rfl (T.own _ (by decide)) boot_isinstance (pa_cons (pv 0) (pa_cons (pe_gC T.g_BadWord) pa_nil))) pa_nil))) pa_nil))))
      (pss_cons (ps_set (i := 1) sc__law_kinds.nd rfl (Or.inl rfl) (pe_op (k_cat (K := K)) (pv 1) (pe_lst (pa_cons (pe_tup (pa_cons pe_str (pa_cons (pe_callB (k_isinE (K := K)) rfl (T.own _ (by decide)) boot_isinstance (pa_cons (pv 0) (pa_cons (pe_gC T.g_TooMany) pa_nil))) pa_nil))) (pa_cons (pe_tup (pa_cons pe_str (pa_cons (pe_callB (k_isinE (K := K)) rfl (T.own _ (by decide)) boot_isinstance (pa_cons (pv 0) (pa_cons (pe_gC T.g_NotPlain) pa_nil))) pa_nil))) pa_nil)))))
      (pss_cons (ps_set (i := 1) sc__law_kinds.nd rfl (Or.inl rfl) (pe_op (k_cat (K := K)) (pv 1) (pe_lst (pa_cons (pe_tup (pa_cons pe_str (pa_cons (pe_callB (k_isinE (K := K)) rfl (T.own _ (by decide)) boot_isinstance (pa_cons (pv 0) (pa_cons (pe_gC T.g_NotGrown) pa_nil))) pa_nil))) (pa_cons (pe_tup (pa_cons pe_str (pa_cons (pe_callB (k_isinE (K := K)) rfl (T.own _ (by decide)) boot_isinstance (pa_cons (pv 0) (pa_cons (pe_gC T.g_BadDraft) pa_nil))) pa_nil))) pa_nil)))))
      (pss_cons (ps_set (i := 1) sc__law_kinds.nd rfl (Or.inl rfl) (pe_op (k_cat (K := K)) (pv 1) (pe_lst (pa_cons (pe_tup (pa_cons pe_str (pa_cons (pe_callB (k_isinE (K := K)) rfl (T.own _ (by decide)) boot_isinstance (pa_cons (pv 0) (pa_cons (pe_gC T.g_BadCloth) pa_nil))) pa_nil))) (pa_cons (pe_tup (pa_cons pe_str (pa_cons (pe_callB (k_isinE (K := K)) rfl (T.own _ (by decide)) boot_isinstance (pa_cons (pv 0) (pa_cons (pe_gC T.g_OutOfPlace) pa_nil))) pa_nil))) pa_nil)))))
      (pss_cons (ps_set (i := 1) sc__law_kinds.nd rfl (Or.inl rfl) (pe_op (k_cat (K := K)) (pv 1) (pe_lst (pa_cons (pe_tup (pa_cons pe_str (pa_cons (pe_not (pe_callB (k_isinE (K := K)) rfl (T.own _ (by decide)) boot_isinstance (pa_cons (pv 0) (pa_cons (pe_ty rfl (T.own _ (by decide)) boot_ValueError) pa_nil)))) pa_nil))) pa_nil))))
      (pss_one (ps_ret (pe_comp2 (K := K) (k_pil (K := K) (pv 1)) (fun _ _ _ _ => (pts_one (pt_val (pv 1)))) (fun _ _ _ _ => (pv 0)))))))))), ?_⟩
    (repeat (first | (with_reducible first | refine rd_seq ?_ | refine rd_asg ?_ | refine rd_c ?_ | refine rd_nil ?_ | refine rd_cons ?_ | refine rd_lst ?_ | refine rd_tup ?_ | refine rd_cb ?_) | (((with_reducible apply rd_var); exact rfl))))
    refine rd_isinE ((Same.refl H) _ _ ha) T.xk_BadCloth T.ki_BadCloth_BadRow ?_
    (repeat (first | (with_reducible refine rd_nil ?_) | (((with_reducible refine rd_len ?_ ?_); exact Nat.le_of_ble_eq_true rfl))))
    intro t_row ht_row
    have z1 := same_new (o := HO.tup [V.str "row", V.bl false]) ht_row
    have g_t_row : upd H t_row (HO.tup [V.str "row", V.bl false]) t_row = _ := upd_same
    generalize upd H t_row (HO.tup [V.str "row", V.bl false]) = H1 at z1 g_t_row ⊢
    have y1 : Same H H1 := (Same.refl H).trans z1
    (repeat (first | (with_reducible first | refine rd_c ?_ | refine rd_nil ?_ | refine rd_cons ?_ | refine rd_tup ?_ | refine rd_cb ?_) | (((with_reducible apply rd_var); exact rfl))))
    refine rd_isinE (y1 _ _ ha) T.xk_BadCloth T.ki_BadCloth_BadWord ?_
    (repeat (first | (with_reducible refine rd_nil ?_) | (((with_reducible refine rd_len ?_ ?_); exact Nat.le_of_ble_eq_true rfl))))
    intro t_word ht_word
    have z2 := same_new (o := HO.tup [V.str "word", V.bl false]) ht_word
    have g_t_word : upd H1 t_word (HO.tup [V.str "word", V.bl false]) t_word = _ := upd_same
    generalize upd H1 t_word (HO.tup [V.str "word", V.bl false]) = H2 at z2 g_t_word ⊢
    have y2 : Same H H2 := y1.trans z2
    (repeat (first | (with_reducible refine rd_nil ?_) | (((with_reducible refine rd_len ?_ ?_); exact Nat.le_of_ble_eq_true rfl))))
    intro l0 hl0
    have z3 := same_new (o := HO.lst [V.ref t_row, V.ref t_word]) hl0
    have g_l0 : upd H2 l0 (HO.lst [V.ref t_row, V.ref t_word]) l0 = _ := upd_same
    generalize upd H2 l0 (HO.lst [V.ref t_row, V.ref t_word]) = H3 at z3 g_l0 ⊢
    have y3 : Same H H3 := y2.trans z3
    (repeat (first | (with_reducible first | refine rd_seq ?_ | refine rd_asg ?_ | refine rd_name ?_ | refine rd_c ?_ | refine rd_op ?_ | refine rd_nil ?_ | refine rd_cons ?_ | refine rd_lst ?_ | refine rd_tup ?_ | refine rd_cb ?_) | (((with_reducible apply rd_var); exact rfl))))
    refine rd_isinE (y3 _ _ ha) T.xk_BadCloth T.ki_BadCloth_TooMany ?_
    (repeat (first | (with_reducible refine rd_nil ?_) | (((with_reducible refine rd_len ?_ ?_); exact Nat.le_of_ble_eq_true rfl))))
    intro t_many ht_many
    have z4 := same_new (o := HO.tup [V.str "many", V.bl false]) ht_many
    have g_t_many : upd H3 t_many (HO.tup [V.str "many", V.bl false]) t_many = _ := upd_same
    generalize upd H3 t_many (HO.tup [V.str "many", V.bl false]) = H4 at z4 g_t_many ⊢
    have y4 : Same H H4 := y3.trans z4
    (repeat (first | (with_reducible first | refine rd_c ?_ | refine rd_nil ?_ | refine rd_cons ?_ | refine rd_tup ?_ | refine rd_cb ?_) | (((with_reducible apply rd_var); exact rfl))))
    refine rd_isinE (y4 _ _ ha) T.xk_BadCloth T.ki_BadCloth_NotPlain ?_
    (repeat (first | (with_reducible refine rd_nil ?_) | (((with_reducible refine rd_len ?_ ?_); exact Nat.le_of_ble_eq_true rfl))))
    intro t_plain ht_plain
    have z5 := same_new (o := HO.tup [V.str "plain", V.bl false]) ht_plain
    have g_t_plain : upd H4 t_plain (HO.tup [V.str "plain", V.bl false]) t_plain = _ := upd_same
    generalize upd H4 t_plain (HO.tup [V.str "plain", V.bl false]) = H5 at z5 g_t_plain ⊢
    have y5 : Same H H5 := y4.trans z5
    (repeat (first | (with_reducible refine rd_nil ?_) | (((with_reducible refine rd_len ?_ ?_); exact Nat.le_of_ble_eq_true rfl))))
    intro l1 hl1
    have z6 := same_new (o := HO.lst [V.ref t_many, V.ref t_plain]) hl1
    have g_l1 : upd H5 l1 (HO.lst [V.ref t_many, V.ref t_plain]) l1 = _ := upd_same
    generalize upd H5 l1 (HO.lst [V.ref t_many, V.ref t_plain]) = H6 at z6 g_l1 ⊢
    have y6 : Same H H6 := y5.trans z6
    (skip)
    refine rd_cat (SqL.of (z6 _ _ (z5 _ _ (z4 _ _ g_l0)))) (SqL.of g_l1) (by simp) fun m1 hm1 => ?_
    have z7 := same_new (o := HO.lst ([V.ref t_row, V.ref t_word] ++ [V.ref t_many, V.ref t_plain])) hm1
    have g_m1 : upd H6 m1 (HO.lst ([V.ref t_row, V.ref t_word] ++ [V.ref t_many, V.ref t_plain])) m1 = some (.lst [V.ref t_row, V.ref t_word, V.ref t_many, V.ref t_plain]) := upd_same
    generalize upd H6 m1 (HO.lst ([V.ref t_row, V.ref t_word] ++ [V.ref t_many, V.ref t_plain])) = H7 at z7 g_m1 ⊢
    have y7 : Same H H7 := y6.trans z7
    (repeat (first | (with_reducible first | refine rd_seq ?_ | refine rd_asg ?_ | refine rd_name ?_ | refine rd_c ?_ | refine rd_op ?_ | refine rd_nil ?_ | refine rd_cons ?_ | refine rd_lst ?_ | refine rd_tup ?_ | refine rd_cb ?_) | (((with_reducible apply rd_var); exact rfl))))
    refine rd_isinE (y7 _ _ ha) T.xk_BadCloth T.ki_BadCloth_NotGrown ?_
    (repeat (first | (with_reducible refine rd_nil ?_) | (((with_reducible refine rd_len ?_ ?_); exact Nat.le_of_ble_eq_true rfl))))
    intro t_grown ht_grown
    have z8 := same_new (o := HO.tup [V.str "grown", V.bl false]) ht_grown
    have g_t_grown : upd H7 t_grown (HO.tup [V.str "grown", V.bl false]) t_grown = _ := upd_same
    generalize upd H7 t_grown (HO.tup [V.str "grown", V.bl false]) = H8 at z8 g_t_grown ⊢
    have y8 : Same H H8 := y7.trans z8
    (repeat (first | (with_reducible first | refine rd_c ?_ | refine rd_nil ?_ | refine rd_cons ?_ | refine rd_tup ?_ | refine rd_cb ?_) | (((with_reducible apply rd_var); exact rfl))))
    refine rd_isinE (y8 _ _ ha) T.xk_BadCloth T.ki_BadCloth_BadDraft ?_
    (repeat (first | (with_reducible refine rd_nil ?_) | (((with_reducible refine rd_len ?_ ?_); exact Nat.le_of_ble_eq_true rfl))))
    intro t_draft ht_draft
    have z9 := same_new (o := HO.tup [V.str "draft", V.bl false]) ht_draft
    have g_t_draft : upd H8 t_draft (HO.tup [V.str "draft", V.bl false]) t_draft = _ := upd_same
    generalize upd H8 t_draft (HO.tup [V.str "draft", V.bl false]) = H9 at z9 g_t_draft ⊢
    have y9 : Same H H9 := y8.trans z9
    (repeat (first | (with_reducible refine rd_nil ?_) | (((with_reducible refine rd_len ?_ ?_); exact Nat.le_of_ble_eq_true rfl))))
    intro l2 hl2
    have z10 := same_new (o := HO.lst [V.ref t_grown, V.ref t_draft]) hl2
    have g_l2 : upd H9 l2 (HO.lst [V.ref t_grown, V.ref t_draft]) l2 = _ := upd_same
    generalize upd H9 l2 (HO.lst [V.ref t_grown, V.ref t_draft]) = H10 at z10 g_l2 ⊢
    have y10 : Same H H10 := y9.trans z10
    (skip)
    refine rd_cat (SqL.of (z10 _ _ (z9 _ _ (z8 _ _ g_m1)))) (SqL.of g_l2) (by simp) fun m2 hm2 => ?_
    have z11 := same_new (o := HO.lst ([V.ref t_row, V.ref t_word, V.ref t_many, V.ref t_plain] ++ [V.ref t_grown, V.ref t_draft])) hm2
    have g_m2 : upd H10 m2 (HO.lst ([V.ref t_row, V.ref t_word, V.ref t_many, V.ref t_plain] ++ [V.ref t_grown, V.ref t_draft])) m2 = some (.lst [V.ref t_row, V.ref t_word, V.ref t_many, V.ref t_plain, V.ref t_grown, V.ref t_draft]) := upd_same
    generalize upd H10 m2 (HO.lst ([V.ref t_row, V.ref t_word, V.ref t_many, V.ref t_plain] ++ [V.ref t_grown, V.ref t_draft])) = H11 at z11 g_m2 ⊢
    have y11 : Same H H11 := y10.trans z11
    (repeat (first | (with_reducible first | refine rd_seq ?_ | refine rd_asg ?_ | refine rd_name ?_ | refine rd_c ?_ | refine rd_op ?_ | refine rd_nil ?_ | refine rd_cons ?_ | refine rd_lst ?_ | refine rd_tup ?_ | refine rd_cb ?_) | (((with_reducible apply rd_var); exact rfl))))
    refine rd_isinE (y11 _ _ ha) T.xk_BadCloth T.ki_BadCloth_BadCloth ?_
    (repeat (first | (with_reducible refine rd_nil ?_) | (((with_reducible refine rd_len ?_ ?_); exact Nat.le_of_ble_eq_true rfl))))
    intro t_cloth ht_cloth
    have z12 := same_new (o := HO.tup [V.str "cloth", V.bl true]) ht_cloth
    have g_t_cloth : upd H11 t_cloth (HO.tup [V.str "cloth", V.bl true]) t_cloth = _ := upd_same
    generalize upd H11 t_cloth (HO.tup [V.str "cloth", V.bl true]) = H12 at z12 g_t_cloth ⊢
    have y12 : Same H H12 := y11.trans z12
    (repeat (first | (with_reducible first | refine rd_c ?_ | refine rd_nil ?_ | refine rd_cons ?_ | refine rd_tup ?_ | refine rd_cb ?_) | (((with_reducible apply rd_var); exact rfl))))
    refine rd_isinE (y12 _ _ ha) T.xk_BadCloth T.ki_BadCloth_OutOfPlace ?_
    (repeat (first | (with_reducible refine rd_nil ?_) | (((with_reducible refine rd_len ?_ ?_); exact Nat.le_of_ble_eq_true rfl))))
    intro t_place ht_place
    have z13 := same_new (o := HO.tup [V.str "place", V.bl false]) ht_place
    have g_t_place : upd H12 t_place (HO.tup [V.str "place", V.bl false]) t_place = _ := upd_same
    generalize upd H12 t_place (HO.tup [V.str "place", V.bl false]) = H13 at z13 g_t_place ⊢
    have y13 : Same H H13 := y12.trans z13
    (repeat (first | (with_reducible refine rd_nil ?_) | (((with_reducible refine rd_len ?_ ?_); exact Nat.le_of_ble_eq_true rfl))))
    intro l3 hl3
    have z14 := same_new (o := HO.lst [V.ref t_cloth, V.ref t_place]) hl3
    have g_l3 : upd H13 l3 (HO.lst [V.ref t_cloth, V.ref t_place]) l3 = _ := upd_same
    generalize upd H13 l3 (HO.lst [V.ref t_cloth, V.ref t_place]) = H14 at z14 g_l3 ⊢
    have y14 : Same H H14 := y13.trans z14
    (skip)
    refine rd_cat (SqL.of (z14 _ _ (z13 _ _ (z12 _ _ g_m2)))) (SqL.of g_l3) (by simp) fun m3 hm3 => ?_
    have z15 := same_new (o := HO.lst ([V.ref t_row, V.ref t_word, V.ref t_many, V.ref t_plain, V.ref t_grown, V.ref t_draft] ++ [V.ref t_cloth, V.ref t_place])) hm3
    have g_m3 : upd H14 m3 (HO.lst ([V.ref t_row, V.ref t_word, V.ref t_many, V.ref t_plain, V.ref t_grown, V.ref t_draft] ++ [V.ref t_cloth, V.ref t_place])) m3 = some (.lst [V.ref t_row, V.ref t_word, V.ref t_many, V.ref t_plain, V.ref t_grown, V.ref t_draft, V.ref t_cloth, V.ref t_place]) := upd_same
    generalize upd H14 m3 (HO.lst ([V.ref t_row, V.ref t_word, V.ref t_many, V.ref t_plain, V.ref t_grown, V.ref t_draft] ++ [V.ref t_cloth, V.ref t_place])) = H15 at z15 g_m3 ⊢
    have y15 : Same H H15 := y14.trans z15
    (repeat (first | (with_reducible first | refine rd_seq ?_ | refine rd_asg ?_ | refine rd_name ?_ | refine rd_c ?_ | refine rd_op ?_ | refine rd_notV ?_ | refine rd_nil ?_ | refine rd_cons ?_ | refine rd_lst ?_ | refine rd_tup ?_ | refine rd_cb ?_) | (((with_reducible apply rd_var); exact rfl))))
    refine rd_isinET (y15 _ _ ha) T.xk_BadCloth T.ki_BadCloth_ValueError ?_
    (repeat (first | (with_reducible first | refine rd_bl ?_ | refine rd_nil ?_) | (((with_reducible refine rd_len ?_ ?_); exact Nat.le_of_ble_eq_true rfl))))
    intro t_other ht_other
    have z16 := same_new (o := HO.tup [V.str "other", V.bl (!true)]) ht_other
    have g_t_other : upd H15 t_other (HO.tup [V.str "other", V.bl (!true)]) t_other = some (.tup [V.str "other", V.bl false]) := upd_same
    generalize upd H15 t_other (HO.tup [V.str "other", V.bl (!true)]) = H16 at z16 g_t_other ⊢
    have y16 : Same H H16 := y15.trans z16
    (repeat (first | (with_reducible refine rd_nil ?_) | (((with_reducible refine rd_len ?_ ?_); exact Nat.le_of_ble_eq_true rfl))))
    intro l4 hl4
    have z17 := same_new (o := HO.lst [V.ref t_other]) hl4
    have g_l4 : upd H16 l4 (HO.lst [V.ref t_other]) l4 = _ := upd_same
    generalize upd H16 l4 (HO.lst [V.ref t_other]) = H17 at z17 g_l4 ⊢
    have y17 : Same H H17 := y16.trans z17
    (skip)
    refine rd_cat (SqL.of (z17 _ _ (z16 _ _ g_m3))) (SqL.of g_l4) (by simp) fun m4 hm4 => ?_
    have z18 := same_new (o := HO.lst ([V.ref t_row, V.ref t_word, V.ref t_many, V.ref t_plain, V.ref t_grown, V.ref t_draft, V.ref t_cloth, V.ref t_place] ++ [V.ref t_other])) hm4
    have g_m4 : upd H17 m4 (HO.lst ([V.ref t_row, V.ref t_word, V.ref t_many, V.ref t_plain, V.ref t_grown, V.ref t_draft, V.ref t_cloth, V.ref t_place] ++ [V.ref t_other])) m4 = some (.lst [V.ref t_row, V.ref t_word, V.ref t_many, V.ref t_plain, V.ref t_grown, V.ref t_draft, V.ref t_cloth, V.ref t_place, V.ref t_other]) := upd_same
    generalize upd H17 m4 (HO.lst ([V.ref t_row, V.ref t_word, V.ref t_many, V.ref t_plain, V.ref t_grown, V.ref t_draft, V.ref t_cloth, V.ref t_place] ++ [V.ref t_other])) = H18 at z18 g_m4 ⊢
    have y18 : Same H H18 := y17.trans z18
    (repeat (first | (with_reducible first | refine rd_name ?_ | refine rd_ret ?_ | refine rd_comp ?_ | refine rd_iL ?_) | (((with_reducible apply rd_var); exact rfl))))
    refine ⟨m4, rfl, ⟨_, SqL.of g_m4⟩, fun D hD => ?_⟩
    have pr : ∀ i, i < 9 → ∃ b, [V.ref t_row, V.ref t_word, V.ref t_many, V.ref t_plain, V.ref t_grown, V.ref t_draft, V.ref t_cloth, V.ref t_place, V.ref t_other].getD i V.non = .ref b ∧ H18 b = some (.tup [([(V.str "row", V.bl false), (V.str "word", V.bl false), (V.str "many", V.bl false), (V.str "plain", V.bl false), (V.str "grown", V.bl false), (V.str "draft", V.bl false), (V.str "cloth", V.bl true), (V.str "place", V.bl false), (V.str "other", V.bl false)].getD i (V.non, V.non)).1, ([(V.str "row", V.bl false), (V.str "word", V.bl false), (V.str "many", V.bl false), (V.str "plain", V.bl false), (V.str "grown", V.bl false), (V.str "draft", V.bl false), (V.str "cloth", V.bl true), (V.str "place", V.bl false), (V.str "other", V.bl false)].getD i (V.non, V.non)).2]) := by
      intro i hi
      match i, hi with
      | 0, _ => exact ⟨t_row, rfl, (z18 _ _ (z17 _ _ (z16 _ _ (z15 _ _ (z14 _ _ (z13 _ _ (z12 _ _ (z11 _ _ (z10 _ _ (z9 _ _ (z8 _ _ (z7 _ _ (z6 _ _ (z5 _ _ (z4 _ _ (z3 _ _ (z2 _ _ g_t_row)))))))))))))))))⟩
      | 1, _ => exact ⟨t_word, rfl, (z18 _ _ (z17 _ _ (z16 _ _ (z15 _ _ (z14 _ _ (z13 _ _ (z12 _ _ (z11 _ _ (z10 _ _ (z9 _ _ (z8 _ _ (z7 _ _ (z6 _ _ (z5 _ _ (z4 _ _ (z3 _ _ g_t_word))))))))))))))))⟩
      | 2, _ => exact ⟨t_many, rfl, (z18 _ _ (z17 _ _ (z16 _ _ (z15 _ _ (z14 _ _ (z13 _ _ (z12 _ _ (z11 _ _ (z10 _ _ (z9 _ _ (z8 _ _ (z7 _ _ (z6 _ _ (z5 _ _ g_t_many))))))))))))))⟩
      | 3, _ => exact ⟨t_plain, rfl, (z18 _ _ (z17 _ _ (z16 _ _ (z15 _ _ (z14 _ _ (z13 _ _ (z12 _ _ (z11 _ _ (z10 _ _ (z9 _ _ (z8 _ _ (z7 _ _ (z6 _ _ g_t_plain)))))))))))))⟩
      | 4, _ => exact ⟨t_grown, rfl, (z18 _ _ (z17 _ _ (z16 _ _ (z15 _ _ (z14 _ _ (z13 _ _ (z12 _ _ (z11 _ _ (z10 _ _ (z9 _ _ g_t_grown))))))))))⟩
      | 5, _ => exact ⟨t_draft, rfl, (z18 _ _ (z17 _ _ (z16 _ _ (z15 _ _ (z14 _ _ (z13 _ _ (z12 _ _ (z11 _ _ (z10 _ _ g_t_draft)))))))))⟩
      | 6, _ => exact ⟨t_cloth, rfl, (z18 _ _ (z17 _ _ (z16 _ _ (z15 _ _ (z14 _ _ (z13 _ _ g_t_cloth))))))⟩
      | 7, _ => exact ⟨t_place, rfl, (z18 _ _ (z17 _ _ (z16 _ _ (z15 _ _ (z14 _ _ g_t_place)))))⟩
      | 8, _ => exact ⟨t_other, rfl, (z18 _ _ (z17 _ _ g_t_other))⟩
    refine comp_data (m := 0) (p := fun i => decide (i = 6)) (G := fun i => .str ([("row" : Str), ("word" : Str), ("many" : Str), ("plain" : Str), ("grown" : Str), ("draft" : Str), ("cloth" : Str), ("place" : Str), ("other" : Str)].getD i "")) (src_pairs (ps := [(V.str "row", V.bl false), (V.str "word", V.bl false), (V.str "many", V.bl false), (V.str "plain", V.bl false), (V.str "grown", V.bl false), (V.str "draft", V.bl false), (V.str "cloth", V.bl true), (V.str "place", V.bl false), (V.str "other", V.bl false)]) (SqL.of g_m4) pr rfl rfl) hD (by simp) ?_ ?_ ?_
    · intro i H' R hi s kk
      have hi9 : i < 9 := hi
      match i, hi9 with
      | 0, _ => (repeat (first | (with_reducible refine rd_tB ?_) | (((with_reducible apply rd_var); exact rfl)))); exact ⟨_, rfl, kk H' (Same.refl _)⟩
      | 1, _ => (repeat (first | (with_reducible refine rd_tB ?_) | (((with_reducible apply rd_var); exact rfl)))); exact ⟨_, rfl, kk H' (Same.refl _)⟩
      | 2, _ => (repeat (first | (with_reducible refine rd_tB ?_) | (((with_reducible apply rd_var); exact rfl)))); exact ⟨_, rfl, kk H' (Same.refl _)⟩
      | 3, _ => (repeat (first | (with_reducible refine rd_tB ?_) | (((with_reducible apply rd_var); exact rfl)))); exact ⟨_, rfl, kk H' (Same.refl _)⟩
      | 4, _ => (repeat (first | (with_reducible refine rd_tB ?_) | (((with_reducible apply rd_var); exact rfl)))); exact ⟨_, rfl, kk H' (Same.refl _)⟩
      | 5, _ => (repeat (first | (with_reducible refine rd_tB ?_) | (((with_reducible apply rd_var); exact rfl)))); exact ⟨_, rfl, kk H' (Same.refl _)⟩
      | 6, _ => (repeat (first | (with_reducible refine rd_tB ?_) | (((with_reducible apply rd_var); exact rfl)))); exact ⟨_, rfl, kk H' (Same.refl _)⟩
      | 7, _ => (repeat (first | (with_reducible refine rd_tB ?_) | (((with_reducible apply rd_var); exact rfl)))); exact ⟨_, rfl, kk H' (Same.refl _)⟩
      | 8, _ => (repeat (first | (with_reducible refine rd_tB ?_) | (((with_reducible apply rd_var); exact rfl)))); exact ⟨_, rfl, kk H' (Same.refl _)⟩
    · intro i H' R hi hp s kk
      obtain rfl : i = 6 := of_decide_eq_true hp
      (repeat (first | (((with_reducible apply rd_var); exact rfl))))
      exact kk H' _ (Same.refl _) (.str _)
    · intro H' ys s hl r
      obtain ⟨b, eb, hb, _⟩ := dS_of (zs := ["cloth"]) r
      cases eb
      exact k H' D (y18.trans s) (y18.free hD) hb
end
end K27
open L2
namespace K27
open PySem L2 PySem.Spec PyProof.Rows
seal L2.PE L2.PT L2.PW L2.PA L2.PS L2.PSs L2.PI L2.PG L2.PTs L2.PGs
section
variable {P : Program} {w : World} {K : PySem.W.Frag} {mg : Str → Option Value} {base : Heap} {c : Cs}
theorem pw_pos (s : Nat) : (0 : Int) < 1 * 2 ^ ((s : Nat) : Int).toNat := by
  rw [Int.one_mul]
  exact Int.pow_pos (by decide)
theorem pw_nat (s : Nat) : (1 : Int) * 2 ^ ((s : Nat) : Int).toNat = ((2 ^ s : Nat) : Int) := by
  rw [Int.one_mul, Int.toNat_natCast]
  simp
theorem md_nat (x : Int) (s : Nat) : x % (1 * 2 ^ ((s : Nat) : Int).toNat) = (((x % (2 ^ s : Nat)).toNat : Nat) : Int) := by
  rw [pw_nat]
  have := Int.emod_nonneg x (show ((2 ^ s : Nat) : Int) ≠ 0 by have := Nat.two_pow_pos s; omega)
  first | assumption | decide | omega
theorem md_lt (x : Int) (s : Nat) : (x % (2 ^ s : Nat)).toNat < 2 ^ s := by
  have h0 := Nat.two_pow_pos s
  have := Int.emod_lt_of_pos x (show (0 : Int) < ((2 ^ s : Nat) : Int) by (first | assumption | decide | omega))
  have := Int.emod_nonneg x (show ((2 ^ s : Nat) : Int) ≠ 0 by (first | assumption | decide | omega))
  first | assumption | decide | omega
theorem shr_nat (m s : Nat) : ((m : Nat) : Int) / 2 ^ ((s : Nat) : Int).toNat = ((m >>> s : Nat) : Int) := by
  rw [Int.toNat_natCast, Nat.shiftRight_eq_div_pow]
  push_cast
  rfl
noncomputable def sp__law_whole (K : PySem.W.Frag) : Sp := fun vs H Q _ => ∃ (a : Addr) (ns : List Int), vs = [.ref a] ∧ SqL K H a (ns.map V.int) ∧ ns.length ≤ 63 ∧ ∀ H' W, Same H H' → Q (.int W) H'
noncomputable abbrev s__law_whole : Stmt := top 35
theorem sc__law_whole : FnScope ["_law_script"] ["_law_script"] (defScope s__law_whole) := ⟨rfl, rfl, rfl, by decide +kernel, rfl, by decide +kernel, by decide +kernel⟩
theorem ok__law_whole {f : Addr} {fd : FuncData} (F : Fun K "_law_whole" "_law_whole" s__law_whole f fd) (T : Txt K mg c) : FnOk P w K mg base CX0 1 f fd ["_law_script"] (sp__law_whole K) := by
  refine F.ok sc__law_whole (fun vs H Q E h => ?_) (fun cdv A outer s H vs Q E hr h => ?_)
  · obtain ⟨a, ns, rfl, _⟩ := h
    rfl
  · obtain ⟨a, ns, rfl, sa, hn, k⟩ := h
    refine ⟨_, (pss_one (ps_ret (pe_callB (k_sum (K := K)) rfl (T.own _ (by decide)) boot_sum (pa_cons (pe_comp2 (K := K) (pi_enum (K := K) rfl (T.own _ (by decide)) (pa_cons (pv 0) pa_nil)) (fun _ _ _ _ => pts_nil) (fun _ _ _ _ => (pe_op op_mul (pe_op op_mod (pv 1) pe_int) (pe_op op_add (pv 0) pe_int)))) pa_nil)))), ?_⟩
    (repeat (first | (with_reducible first | refine rd_ret ?_ | refine rd_nil ?_ | refine rd_cons ?_ | refine rd_cb ?_ | refine rd_comp ?_ | refine rd_iE ?_) | (((with_reducible apply rd_var); exact rfl))))
    refine ⟨a, rfl, ⟨_, sa⟩, fun D0 hD0 => ?_⟩
    refine ints_comp (G := fun i => ns.getD i 0 % 1000000007 * ((i : Int) + 1)) (src_enum sa rfl rfl) hD0 (by rw [List.length_map]; omega) ?_ ?_
    · intro i H' R hi s kk
      have b1 := Int.emod_nonneg (ns.getD i 0) (show (1000000007 : Int) ≠ 0 by decide)
      have b2 := Int.emod_lt_of_pos (ns.getD i 0) (show (0 : Int) < 1000000007 by decide)
      rw [getD_int hi]
      (repeat (first | (with_reducible first | refine rd_c ?_ | refine rd_op ?_) | (((with_reducible apply rd_var); exact rfl))))
      refine rd_rI (by decide) ?_
      (repeat (first | (with_reducible first | refine rd_c ?_ | refine rd_op ?_ | refine rd_rI0 ?_) | (((with_reducible apply rd_var); exact rfl))))
      refine rd_rI (.inl ⟨by (first | assumption | decide | omega), by (first | assumption | decide | omega)⟩) ?_
      exact kk H' (Same.refl _)
    intro H1 s1 hl1
    (repeat (first | (with_reducible refine rd_nil ?_)))
    refine rd_sum (SqL.of hl1) ?_
    exact k _ _ s1
noncomputable def sp__law_up : Sp := fun vs H Q _ => ∃ (a : Addr) (rs : List Nat) (e p : Nat), vs = [.ref a, nV e, nV p] ∧ H a = some (.lst (rs.map nV)) ∧ p < rs.length ∧ Q (.bl ((rs.getD p 0).testBit e)) H
noncomputable abbrev s__law_up : Stmt := top 36
theorem sc__law_up : FnScope ["_law_rows", "_law_end", "_law_pick"] ["_law_rows", "_law_end", "_law_pick"] (defScope s__law_up) := ⟨rfl, rfl, rfl, by decide +kernel, rfl, by decide +kernel, by decide +kernel⟩
theorem ok__law_up {f : Addr} {fd : FuncData} (F : Fun K "_law_up" "_law_up" s__law_up f fd) (T : Txt K mg c) : FnOk P w K mg base CX0 1 f fd ["_law_rows", "_law_end", "_law_pick"] sp__law_up := by
  refine F.ok sc__law_up (fun vs H Q E h => ?_) (fun cdv A outer s H vs Q E hr h => ?_)
  · obtain ⟨a, rs, e, p, rfl, _⟩ := h
    rfl
  · obtain ⟨a, rs, e, p, rfl, ha, hp, k⟩ := h
    refine ⟨_, (pss_one (ps_ret (pe_cmpR op_eq (pe_op op_and (pe_op op_shr (pe_ix (k_ixl (K := K)) (pv 0) (pv 2) (fun _ _ => rfl)) (pv 1)) pe_int) pe_int (nomark _)))), ?_⟩
    (repeat (first | (with_reducible first | refine rd_op ?_ | refine rd_ret ?_) | (((with_reducible apply rd_var); exact rfl))))
    refine rd_ixL (SqL.of ha) (atI_natV (by (first | assumption | decide | omega)) (by (first | assumption | decide | omega))) ?_
    (repeat (first | (((with_reducible apply rd_var); exact rfl))))
    rw [Int.toNat_natCast]
    refine rd_rI (by show (0 : Int) ≤ _; omega) ?_
    rw [shr_nat]
    (repeat (first | (with_reducible first | refine rd_c ?_ | refine rd_rI0 ?_ | refine rd_eqI ?_)))
    rw [show (1 : Int) = ((1 : Nat) : Int) from rfl, bA, Nat.and_one_is_mod, Nat.shiftRight_eq_div_pow, MM.bit_div]
    have e2 : decide ((((rs.getD p 0).testBit e).toNat : Int) = ((1 : Nat) : Int)) = (rs.getD p 0).testBit e := by
      cases (rs.getD p 0).testBit e <;> rfl
    rw [e2]
    exact k
end
end K27
open L2
namespace K27
open PySem L2 PySem.Spec PyProof.Rows
seal L2.PE L2.PT L2.PW L2.PA L2.PS L2.PSs L2.PI L2.PG L2.PTs L2.PGs
section
variable {P : Program} {w : World} {K : PySem.W.Frag} {mg : Str → Option Value} {base : Heap} {c : Cs}
noncomputable def sp__law_caught (c : Cs) : (XK → TE) → List V → Hp → VK → Prop := fun tb vs H Q => (∀ (E' : XK) (R : VK), (∀ H1, Same H H1 → E' (.ref c.BadCloth) none H1) → tb E' (vs.map some) H R) ∧ ∀ H2 p l e, Same H H2 → H2 p = some (.tup [.ref l, e]) → H2 l = some (.lst [.str "cloth"]) → Q (.ref p) H2
noncomputable abbrev s__law_caught : Stmt := top 37
theorem sc__law_caught : FnScope ["_law_asked", "_law_wrong", "e"] ["_law_asked"] (defScope s__law_caught) := ⟨rfl, rfl, rfl, by decide +kernel, rfl, by decide +kernel, by decide +kernel⟩
theorem ok__law_caught {f : Addr} {fd : FuncData} (F : Fun K "_law_caught" "_law_caught" s__law_caught f fd) (B : Binds K fd ["_law_asked"] []) (T : Txt K mg c) (c__law_kinds : CallF P w K mg base "_law_kinds" 1 ["_law_error"] (sp__law_kinds c)) : CaughtAt P w K mg base f 8 6 (sp__law_caught c) := by
  refine Fun.caught F B sc__law_caught (fun cdv A outer s H fl c' oc N' qual' scope cl params body pm ctv vs tb Q hr th hb h => ?_)
  obtain ⟨h1, k⟩ := h
  refine ⟨_, (pss_cons (ps_set (i := 1) sc__law_caught.nd rfl (Or.inl rfl) pe_non)
      (pss_cons (ps_try (j := 2) rfl rfl T.g_LoomError sc__law_caught.nd rfl rfl (fun _ _ _ hp => (pss_one (ps_expr (pe_th th (pv 0) hp hr rfl hb)))) (fun _ _ => (pss_one (ps_set (i := 1) sc__law_caught.nd rfl (Or.inl rfl) (pv 2)))))
      (pss_one (ps_ret (pe_tup (pa_cons (pe_ifExp (pt_cmpR op_isN (pv 1) pe_non (nomark _)) (pe_lst pa_nil) (pe_callF c__law_kinds (hr.mono (by decide)) (pa_cons (pv 1) pa_nil))) (pa_cons (pv 1) pa_nil))))))), ?_⟩
  (repeat (first | (with_reducible first | refine rd_seq ?_ | refine rd_asg ?_ | refine rd_name ?_ | refine rd_c ?_)))
  refine rd_try ?_
  (repeat (first | (with_reducible refine rd_drop ?_)))
  refine rd_thunk ?_
  (repeat (first | (((with_reducible apply rd_var); exact rfl))))
  refine ⟨rfl, th.hc, h1 _ _ fun H1 s1 => ⟨_, rfl, T.xm_BadCloth_LoomError, fun a σ ha hl => ?_⟩⟩
  obtain ⟨x0, x1, x2, rfl⟩ : ∃ x0 x1 x2, σ = [x0, x1, x2] := by
    match σ, hl with
    | [x0, x1, x2], _ => exact ⟨x0, x1, x2, rfl⟩
  have s2 := same_new (o := excO a c.BadCloth) ha
  (repeat (first | (with_reducible first | refine rd_asg ?_ | refine rd_name ?_) | (((with_reducible apply rd_var); exact rfl))))
  refine rd_end ?_
  (repeat (first | (with_reducible first | refine rd_c ?_ | refine rd_op ?_ | refine rd_test ?_ | refine rd_if ?_ | refine rd_ret ?_ | refine rd_cons ?_ | refine rd_tup ?_) | (((with_reducible apply rd_var); exact rfl))))
  refine ⟨rfl, _, rfl, ?_⟩
  (skip)
  rw [decide_eq_false (by intro z; cases z)]
  refine iteF ?_
  (repeat (first | (with_reducible first | refine rd_nil ?_ | refine rd_cons ?_ | refine rd_call ?_) | (((with_reducible apply rd_var); exact rfl))))
  refine ⟨a, rfl, upd_same, fun H2 l s3 hl2 g2 => ?_⟩
  (repeat (first | (with_reducible first | refine rd_nil ?_ | refine rd_cons ?_) | (((with_reducible apply rd_var); exact rfl)) | (((with_reducible refine rd_len ?_ ?_); exact Nat.le_of_ble_eq_true rfl))))
  intro p hp
  exact k _ p l _ (s1.trans (s2.trans (s3.trans (same_new hp)))) upd_same (same_new hp _ _ g2)
end
end K27
open L2
namespace K27
open PySem L2 PySem.Spec PyProof.Rows
seal L2.PE L2.PT L2.PW L2.PA L2.PS L2.PSs L2.PI L2.PG L2.PTs L2.PGs
section
variable {P : Program} {w : World} {K : PySem.W.Frag} {mg : Str → Option Value} {base : Heap} {c : Cs}
noncomputable def LsAt (H : Hp) (a : Addr) (cs : List Cl) : Prop := ∃ vs : List V, H a = some (.lst vs) ∧ vs.length = cs.length ∧ ∀ i, i < cs.length → ∃ x, vs.getD i .non = .ref x ∧ H x = some (.lst ((cs.getD i cl0).2.map nV))
theorem LsAt.same {H H' : Hp} {a : Addr} {cs : List Cl} (h : LsAt H a cs) (s : Same H H') : LsAt H' a cs := by
  obtain ⟨vs, h1, h2, h3⟩ := h
  refine ⟨vs, s _ _ h1, h2, fun i hi => ?_⟩
  obtain ⟨x, e, C⟩ := h3 i hi
  exact ⟨x, e, s _ _ C⟩
theorem getD_some {vs : List V} {i : Nat} {x : Addr} (h : vs.getD i .non = .ref x) : vs[i]? = some (.ref x) := by
  rw [List.getD_eq_getElem?_getD] at h
  cases e : vs[i]? with
  | none => rw [e] at h; cases h
  | some v => rw [e] at h; exact congrArg some h
noncomputable def dW (cs : List Cl) (n t : Nat) : Nat := MM.ofB (wBit cs (t / cs.length) (t % cs.length)) (n * cs.length)
theorem wRows_eq {cs : List Cl} {n P : Nat} (hn : ∀ i, i < cs.length → (cs.getD i cl0).1 = n) (h0 : 0 < cs.length) (hr : ∀ p i, p < P → i < cs.length → (cs.getD i cl0).2.getD p 0 < 2 ^ n) : ∀ m, m ≤ P → wRows cs m = (List.range (m * cs.length)).map (dW cs n)
  | 0, _ => by simp [wRows]
  | m + 1, hm => by
    show wRows cs m ++ _ = _
    rw [wRows_eq hn h0 hr m (by (first | assumption | decide | omega)), Nat.succ_mul, List.range_add, List.map_append, List.map_map]
    congr 1
    refine List.map_congr_left fun j hj => ?_
    have hj := List.mem_range.mp hj
    have e1 : (m * cs.length + j) / cs.length = m := by
      rw [Nat.mul_comm, Nat.mul_add_div h0, Nat.div_eq_of_lt hj, Nat.add_zero]
    have e2 : (m * cs.length + j) % cs.length = j := by
      rw [Nat.mul_comm, Nat.mul_add_mod, Nat.mod_eq_of_lt hj]
    show _ = MM.ofB (wBit cs ((m * cs.length + j) / cs.length) ((m * cs.length + j) % cs.length)) (n * cs.length)
    rw [e1, e2]
    exact MM.eq_ofB (wRow_lt hn fun i hi => hr m i (by (first | assumption | decide | omega)) hi) fun t ht => wRow_bit hn h0 ht
noncomputable def sp__law_due : Sp := fun vs H Q _ => ∃ (a : Addr) (cs : List Cl) (wide P : Nat), vs = [.ref a, nV wide] ∧ LsAt H a cs ∧ 0 < cs.length ∧ cs.length ≤ 10 ∧ wide ≤ 60 ∧ P ≤ 60 ∧ (∀ i, i < cs.length → (cs.getD i cl0).2.length = P) ∧
  ∀ H' l, Same H H' → H l = none → H' l = some (.lst (((List.range (P * cs.length)).map (dW cs wide)).map nV)) → Q (.ref l) H'
noncomputable abbrev s__law_due : Stmt := top 38
theorem sc__law_due : FnScope ["_law_cloths", "_law_wide", "_law_many", "_law_found", "_law_pick", "_law_row", "_law_end", "_law_own"] ["_law_cloths", "_law_wide"] (defScope s__law_due) := ⟨rfl, rfl, rfl, by decide +kernel, rfl, by decide +kernel, by decide +kernel⟩
theorem ok__law_due {f : Addr} {fd : FuncData} (F : Fun K "_law_due" "_law_due" s__law_due f fd) (T : Txt K mg c) (c__law_up : CallF P w K mg base "_law_up" 1 ["_law_rows", "_law_end", "_law_pick"] sp__law_up) : FnOk P w K mg base CX0 2 f fd ["_law_cloths", "_law_wide"] sp__law_due := by
  refine F.ok sc__law_due (fun vs H Q E h => ?_) (fun cdv A outer s H vs Q E hr h => ?_)
  · obtain ⟨a, cs, wide, P, rfl, _⟩ := h
    rfl
  · obtain ⟨a, cs, wide, Pk, rfl, ca, l0, l1, hw, hP, lP, k⟩ := h
    obtain ⟨vs, ha, lv, el⟩ := id ca
    obtain ⟨x, ex, g0⟩ := el 0 l0
    have hx0 := getD_some ex
    refine ⟨_, (pss_cons (ps_set (i := 2) sc__law_due.nd rfl (Or.inl rfl) (pe_callB (k_len (K := K)) rfl (T.own _ (by decide)) boot_len (pa_cons (pv 0) pa_nil)))
      (pss_cons (ps_set (i := 3) sc__law_due.nd rfl (Or.inl rfl) (pe_lst pa_nil))
      (pss_cons (ps_for PassesOwn.never rfl (pi_range1 rfl (T.own _ (by decide)) (pa_cons (pe_op op_mul (pe_callB (k_len (K := K)) rfl (T.own _ (by decide)) boot_len (pa_cons (pe_ix (k_ixl (K := K)) (pv 0) pe_int (fun _ _ => rfl)) pa_nil)) (pv 2)) pa_nil)) (pg_name (i := 4) sc__law_due.nd rfl (Or.inl rfl)) (pss_cons (ps_set (i := 5) sc__law_due.nd rfl (Or.inl rfl) pe_int)
      (pss_cons (ps_for PassesOwn.never rfl (pi_range1 rfl (T.own _ (by decide)) (pa_cons (pe_op op_mul (pv 1) (pv 2)) pa_nil)) (pg_name (i := 6) sc__law_due.nd rfl (Or.inl rfl)) (pss_cons (ps_set (i := 7) sc__law_due.nd rfl (Or.inl rfl) (pe_op op_mod (pv 4) (pv 2)))
      (pss_one (ps_if (PW.pt (pw_or (pt_cmpR op_lt (pe_op op_mod (pv 6) (pv 2)) (pv 7) (nomark _)) (pw_or1 (PW.pt (pw_and (pt_cmpR op_eq (pe_op op_mod (pv 6) (pv 2)) (pv 7) (nomark _)) (pw_and1 (pt_val (pe_callF c__law_up hr (pa_cons (pe_ix (k_ixl (K := K)) (pv 0) (pv 7) (fun _ _ => rfl)) (pa_cons (pe_op op_fdivL (pv 6) (pv 2)) (pa_cons (pe_op op_fdivL (pv 4) (pv 2)) pa_nil))))))))))) (pss_one (ps_set (i := 5) sc__law_due.nd rfl (Or.inl rfl) (pe_op op_add (pv 5) (pe_op op_shl pe_int (pv 6))))) pss_nil))))
      (pss_one (ps_expr (kx_bm (K := K) PySem.F.plainAttrs_list PySem.F.slot_list_append PySem.F.type_list_append mt_append (pv 3) (pa_cons (pv 5) pa_nil)))))))
      (pss_one (ps_ret (pv 3)))))), ?_⟩
    (repeat (first | (with_reducible first | refine rd_seq ?_ | refine rd_asg ?_ | refine rd_nil ?_ | refine rd_cons ?_ | refine rd_cb ?_) | (((with_reducible apply rd_var); exact rfl))))
    refine rd_lenL (SqL.of ha) ?_
    (repeat (first | (with_reducible first | refine rd_seq ?_ | refine rd_asg ?_ | refine rd_name ?_ | refine rd_nil ?_ | refine rd_lst ?_) | (((with_reducible refine rd_len ?_ ?_); exact Nat.le_of_ble_eq_true rfl))))
    rw [lv]
    intro q hq
    have s1 := same_new (o := HO.lst []) hq
    have g1 : upd H q (HO.lst []) q = some (.lst (((List.range 0).map (dW cs wide)).map nV)) := upd_same
    generalize upd H q (HO.lst []) = H1 at s1 g1 ⊢
    (repeat (first | (with_reducible first | refine rd_seq ?_ | refine rd_name ?_ | refine rd_c ?_ | refine rd_op ?_ | refine rd_cons ?_ | refine rd_cb ?_ | refine rd_for ?_ | refine rd_i1 ?_) | (((with_reducible apply rd_var); exact rfl))))
    refine rd_ixL (SqL.of (s1 _ _ ha)) (atI_nat (j := 0) hx0) ?_
    (repeat (first | (with_reducible refine rd_nil ?_)))
    refine rd_lenL (SqL.of (s1 _ _ g0)) ?_
    (repeat (first | (((with_reducible apply rd_var); exact rfl))))
    rw [List.length_map, lP 0 l0]
    refine rd_rI (.inl ⟨by (first | assumption | decide | omega), by (first | assumption | decide | omega)⟩) ?_
    rw [show ((Pk : Nat) : Int) * ((cs.length : Nat) : Int) = ((Pk * cs.length : Nat) : Int) by push_cast; rfl]
    have m1 : Pk * cs.length ≤ 600 := Nat.mul_le_mul hP l1
    have m2 : wide * cs.length ≤ 600 := Nat.mul_le_mul hw l1
    (repeat (first | (with_reducible refine rd_nil ?_)))
    refine ⟨_, rfl, by (first | assumption | decide | omega), by (first | assumption | decide | omega), ?_⟩
    rw [Int.toNat_natCast]
    refine for_srcW (H0 := H) (fs_range0 (n := Pk * cs.length)) (fun i σ H3 => ∃ u1 u2 u3 u4, σ = [some (.ref a), some (nV wide), some (nV cs.length), some (.ref q), u1, u2, u3, u4] ∧ Same H H3 ∧ H3 q = some (.lst (((List.range i).map (dW cs wide)).map nV))) ⟨_, _, _, _, rfl, s1, g1⟩ (fun i σ H3 ⟨_, _, _, _, _, s, _⟩ => s) ?_ ?_
    · rintro i σ H' H3 hi ⟨u1, u2, u3, u4, rfl, s', g'⟩ s3
      have sH := s'.trans s3
      (repeat (first | (with_reducible first | refine rd_seq ?_ | refine rd_asg ?_ | refine rd_name ?_ | refine rd_c ?_ | refine rd_op ?_ | refine rd_cons ?_ | refine rd_for ?_ | refine rd_i1 ?_) | (((with_reducible apply rd_var); exact rfl))))
      refine rd_rI (.inl ⟨by (first | assumption | decide | omega), by (first | assumption | decide | omega)⟩) ?_
      rw [show ((wide : Nat) : Int) * ((cs.length : Nat) : Int) = ((wide * cs.length : Nat) : Int) by push_cast; rfl]
      (repeat (first | (with_reducible refine rd_nil ?_)))
      refine ⟨_, rfl, by (first | assumption | decide | omega), by (first | assumption | decide | omega), ?_⟩
      rw [Int.toNat_natCast]
      have hd : i / cs.length < Pk := by rw [Nat.div_lt_iff_lt_mul l0]; exact hi
      have hm := Nat.mod_lt i l0
      refine for_src (fs_range0 (n := wide * cs.length)) (fun e σ H4 => ∃ u3 u4, σ = [some (.ref a), some (nV wide), some (nV cs.length), some (.ref q), some (nV i), some (nV (MM.ofB (wBit cs (i / cs.length) (i % cs.length)) e)), u3, u4] ∧ Same H3 H4) ⟨_, _, rfl, Same.refl _⟩ (fun i σ H4 ⟨_, _, _, z⟩ => z) ?_ ?_
      · rintro e σ H4 H5 he ⟨u3, u4, rfl, s4⟩ s5
        have s35 := s4.trans s5
        have sH := sH.trans s35
        have finT : wBit cs (i / cs.length) (i % cs.length) e = true → nV (MM.ofB (wBit cs (i / cs.length) (i % cs.length)) (e + 1)) = .int (((MM.ofB (wBit cs (i / cs.length) (i % cs.length)) e : Nat) : Int) + ((2 ^ e : Nat) : Int)) := fun hb => by
          rw [ofB_t hb]
          rfl
        have finF : wBit cs (i / cs.length) (i % cs.length) e = false → nV (MM.ofB (wBit cs (i / cs.length) (i % cs.length)) (e + 1)) = nV (MM.ofB (wBit cs (i / cs.length) (i % cs.length)) e) := fun hb => by
          rw [ofB_f hb]
        generalize MM.ofB (wBit cs (i / cs.length) (i % cs.length)) (e + 1) = Z at finT finF ⊢
        generalize MM.ofB (wBit cs (i / cs.length) (i % cs.length)) e = Y0 at finT finF ⊢
        (repeat (first | (with_reducible first | refine rd_seq ?_ | refine rd_asg ?_ | refine rd_op ?_) | (((with_reducible apply rd_var); exact rfl))))
        refine rd_rI (by show (0 : Int) < _; omega) ?_
        rw [show ((i : Nat) : Int) % ((cs.length : Nat) : Int) = ((i % cs.length : Nat) : Int) by push_cast; rfl]
        (repeat (first | (with_reducible first | refine rd_name ?_ | refine rd_op ?_ | refine rd_test ?_ | refine rd_or ?_) | (((with_reducible apply rd_var); exact rfl)) | (with_reducible refine rd_ifS ?_)))
        refine rd_rI (by show (0 : Int) < _; omega) ?_
        rw [show ((e : Nat) : Int) % ((cs.length : Nat) : Int) = ((e % cs.length : Nat) : Int) by push_cast; rfl]
        (repeat (first | (with_reducible first | refine rd_rI0 ?_ | refine rd_bl ?_) | (((with_reducible apply rd_var); exact rfl))))
        have emod : ((e : Nat) : Int) % ((cs.length : Nat) : Int) = ((e % cs.length : Nat) : Int) := by push_cast; rfl
        unfold wBit at finT finF
        generalize hE : e % cs.length = eM at *
        generalize hO : i % cs.length = oM at *
        by_cases c1 : eM < oM
        · rw [decide_eq_true (by (first | assumption | decide | omega))]
          rw [decide_eq_true c1, Bool.true_or] at finT
          refine iteT ?_
          (repeat (first | (with_reducible first | refine rd_asg ?_ | refine rd_c ?_ | refine rd_op ?_ | refine iteT ?_) | (((with_reducible apply rd_var); exact rfl))))
          refine rd_rI ⟨by (first | assumption | decide | omega), by (first | assumption | decide | omega), by decide⟩ ?_
          (repeat (first | (with_reducible first | refine rd_name ?_ | refine rd_rI0 ?_)))
          rw [pw_nat, ← finT rfl]
          exact ⟨_, _, rfl, s35⟩
        · rw [decide_eq_false (by (first | assumption | decide | omega))]
          rw [decide_eq_false c1, Bool.false_or] at finT finF
          refine iteF ?_
          (repeat (first | (with_reducible first | refine rd_op ?_ | refine rd_test ?_ | refine rd_and ?_) | (((with_reducible apply rd_var); exact rfl))))
          refine rd_rI (by show (0 : Int) < _; omega) ?_
          rw [emod]
          (repeat (first | (with_reducible first | refine rd_eqI ?_ | refine rd_bl ?_) | (((with_reducible apply rd_var); exact rfl))))
          by_cases c2 : eM = oM
          · rw [decide_eq_true (by (first | assumption | decide | omega))]
            rw [decide_eq_true c2, Bool.true_and] at finT finF
            refine iteT ?_
            obtain ⟨y, ey, gy⟩ := el oM hm
            (repeat (first | (with_reducible first | refine rd_op ?_ | refine rd_tB ?_ | refine rd_cons ?_ | refine rd_call ?_) | (((with_reducible apply rd_var); exact rfl))))
            refine rd_ixL (SqL.of (sH _ _ ha)) (atI_nat (j := oM) (getD_some ey)) ?_
            (repeat (first | (with_reducible first | refine rd_op ?_ | refine rd_cons ?_) | (((with_reducible apply rd_var); exact rfl))))
            refine rd_rI ⟨by (first | assumption | decide | omega), by (first | assumption | decide | omega)⟩ ?_
            rw [show ((e : Nat) : Int) / ((cs.length : Nat) : Int) = ((e / cs.length : Nat) : Int) by push_cast; rfl]
            (repeat (first | (with_reducible first | refine rd_op ?_ | refine rd_cons ?_) | (((with_reducible apply rd_var); exact rfl))))
            refine rd_rI ⟨by (first | assumption | decide | omega), by (first | assumption | decide | omega)⟩ ?_
            rw [show ((i : Nat) : Int) / ((cs.length : Nat) : Int) = ((i / cs.length : Nat) : Int) by push_cast; rfl]
            (repeat (first | (with_reducible refine rd_nil ?_)))
            refine ⟨y, _, e / cs.length, i / cs.length, rfl, sH _ _ gy, by rw [lP oM hm]; exact hd, ?_⟩
            (repeat (first | (with_reducible refine rd_bl ?_)))
            refine iteC (fun hb2 => ?_) (fun hb2 => ?_)
            · (repeat (first | (with_reducible first | refine rd_asg ?_ | refine rd_c ?_ | refine rd_op ?_) | (((with_reducible apply rd_var); exact rfl))))
              refine rd_rI ⟨by (first | assumption | decide | omega), by (first | assumption | decide | omega), by decide⟩ ?_
              (repeat (first | (with_reducible first | refine rd_name ?_ | refine rd_rI0 ?_)))
              rw [pw_nat, ← finT hb2]
              exact ⟨_, _, rfl, s35⟩
            · (repeat (first | (with_reducible refine rd_next ?_)))
              rw [← finF hb2]
              exact ⟨_, _, rfl, s35⟩
          · rw [decide_eq_false (by (first | assumption | decide | omega))]
            rw [decide_eq_false c2, Bool.false_and] at finF
            refine iteF ?_
            (repeat (first | (with_reducible first | refine iteF ?_ | refine rd_next ?_)))
            rw [← finF rfl]
            exact ⟨_, _, rfl, s35⟩
      · rintro σ H4 ⟨u3, u4, rfl, s4⟩
        have g4 := s4 _ _ (s3 _ _ g')
        (repeat (first | (with_reducible first | refine rd_drop ?_ | refine rd_bm ?_) | (((with_reducible apply rd_var); exact rfl))))
        refine tyL (SqL.of g4) ?_
        (repeat (first | (with_reducible first | refine rd_nil ?_ | refine rd_cons ?_) | (((with_reducible apply rd_var); exact rfl))))
        refine rd_app g4 (by simp; omega) ?_
        (skip)
        refine ⟨_, _, _, _, rfl, fun x o ex => ?_, ?_⟩
        · rw [upd_ne (fun z => by rw [z, hq] at ex; cases ex)]
          exact s4 _ _ (sH _ _ ex)
        · rw [upd_same, List.range_succ, List.map_append, List.map_append]
          rfl
    · rintro σ H3 ⟨u1, u2, u3, u4, rfl, s3, g3⟩
      (repeat (first | (with_reducible refine rd_ret ?_) | (((with_reducible apply rd_var); exact rfl))))
      exact k H3 q s3 hq g3
end
end K27
open L2
namespace K27
open PySem L2 PySem.Spec PyProof.Rows
seal L2.PE L2.PT L2.PW L2.PA L2.PS L2.PSs L2.PI L2.PG L2.PTs L2.PGs
section
variable {P : Program} {w : World} {K : PySem.W.Frag} {mg : Str → Option Value} {base : Heap} {c : Cs}
noncomputable abbrev lq : Str := (envOfC "law" (defScope (top 39)) 0 0 .none).qual ++ "<lambda>"
theorem high_at {A B m L : Nat} (hB : 0 < B) (hA : m * A ≤ L) : ∃ s : Nat, (if (if (B : Int) < (A : Int) then (B : Int) else (A : Int)) > 1 then (if (B : Int) < (A : Int) then (B : Int) else (A : Int)) else 1) = (s : Nat) ∧ 1 ≤ s ∧ s ≤ B ∧ s * m ≤ L + m := by
  have key : ∀ C : Nat, C ≤ A → C ≤ B → ∃ s : Nat, (if (C : Int) > 1 then (C : Int) else 1) = (s : Nat) ∧ 1 ≤ s ∧ s ≤ B ∧ s * m ≤ L + m := fun C hc hb => by
    by_cases y : (C : Int) > 1
    · refine ⟨C, if_pos y, by (first | assumption | decide | omega), hb, ?_⟩
      have : C * m ≤ A * m := Nat.mul_le_mul_right m hc
      rw [Nat.mul_comm A m] at this
      first | assumption | decide | omega
    · exact ⟨1, if_neg y, by (first | assumption | decide | omega), by (first | assumption | decide | omega), by (first | assumption | decide | omega)⟩
  by_cases z : (B : Int) < (A : Int)
  · simp only [if_pos z]
    exact key B (by (first | assumption | decide | omega)) (Nat.le_refl _)
  · simp only [if_neg z]
    exact key A (Nat.le_refl _) (by (first | assumption | decide | omega))
noncomputable def ordF (os : List Nat) (m : Nat) : List Nat := ((List.range 4).filter fun i => decide (os.getD i 0 < m)).map fun i => os.getD i 0
theorem ordF_at {os : List Nat} (ho : os = [0, 1, 2, 3] ∨ os = [3, 2, 1, 0]) {m : Nat} (h1 : 1 ≤ m) (h4 : m ≤ 4) : (ordF os m).length = m ∧ ∀ k ∈ ordF os m, k < m := by
  rcases (show m = 1 ∨ m = 2 ∨ m = 3 ∨ m = 4 by (first | assumption | decide | omega)) with rfl | rfl | rfl | rfl <;> rcases ho with rfl | rfl <;> decide
theorem getD_map0 {cs : List Cl} {π : List Nat} {i : Nat} (h : i < π.length) : (π.map fun k => cs.getD k cl0).getD i cl0 = cs.getD (π.getD i 0) cl0 := by
  rw [List.getD_eq_getElem?_getD, List.getElem?_map, List.getElem?_eq_getElem h, List.getD_eq_getElem?_getD (l := π), List.getElem?_eq_getElem h]
  rfl
theorem unfit {cs : List Cl} (h : likeB cs = false) : wFit cs = false := by unfold wFit; rw [h]; rfl
theorem cls_of {c : Cs} {H : Hp} {a : Addr} {xs : List Addr} {cs : List Cl} (g : H a = some (.lst (xs.map V.ref))) (l : xs.length = cs.length) (h : ∀ i, i < cs.length → ClAt c.Cloth H (xs.getD i 0) (cs.getD i cl0).1 (cs.getD i cl0).2) : ClsAt c H a cs := by
  refine ⟨_, g, by rw [List.length_map]; exact l, fun i hi => ⟨xs.getD i 0, ?_, h i hi⟩⟩
  have e := List.getElem?_eq_getElem (l := xs) (i := i) (by (first | assumption | decide | omega))
  rw [List.getD_eq_getElem?_getD, List.getElem?_map, e, List.getD_eq_getElem?_getD, e]
  rfl
theorem rd_neLS {K : PySem.W.Frag} {H : Hp} {Q : VK} {l p : Addr} {as bs : List Str} (c : SqL K H l (as.map V.str)) (d : SqL K H p (bs.map V.str)) (h : Q (.bl (!decide (as = bs))) H) : rEqL K true (.ref l) (.ref p) H Q :=
  ⟨l, p, _, _, rfl, rfl, c, d, by simp [flatV], by simp [flatV], by rw [eqVs_strs]; exact h⟩
noncomputable abbrev s_law : Stmt := top 39
theorem sc_law : FnScope ["_law_script", "_law_whole_here", "_law_many", "_law_wide", "_law_high", "_law_cells", "_law_rows", "_law_some", "_law_asked", "_law_found", "_law_due_here", "_law_one", "_law_taller", "_law_broad", "_law_tall", "_law_handed", "_law_order", "_law_other"] ["_law_script"] (defScope s_law) := ⟨rfl, rfl, rfl, by decide +kernel, rfl, by decide +kernel, by decide +kernel⟩
theorem ok_law {f : Addr} {fd : FuncData} {cc TT : Addr} (hc : fd.code = .ref cc) (hd : PySem.W.CodeHd base cc TT) (hbt : base.BuiltinsAt mg TT) (F : Fun K "law" "law" s_law f fd) (T : Txt K mg c) (c__law_whole : CallF P w K mg base "_law_whole" 1 ["_law_script"] (sp__law_whole K)) (c__law_mixed : CallF P w K mg base "_law_mixed" 1 ["_law_cell", "_law_k"] sp__law_mixed) (c__law_due : CallF P w K mg base "_law_due" 2 ["_law_cloths", "_law_wide"] sp__law_due) (m_Cloth : MakeE P w K mg base "Cloth" c.Cloth 4 ["self", "ends", "rows"] (sp_Cloth___init__ K c)) (c_woven_at_once : CallE P w K mg base "woven_at_once" 6 ["cloths"] (sp_woven_at_once c)) (d_Cloth_told : MethF P w K mg base c.Cloth "told" 1 ["self"] (sp_Cloth_told c)) (c__law_caught : CaughtF P w K mg base "_law_caught" 8 6 (sp__law_caught c)) : FnOk P w K mg base CX0 9 f fd ["_law_script"] (spLawL K TT) := by
  refine Fun.okL F hc sc_law (fun vs H Q E h => ?_) (fun A outer s H vs Q E hr h => ?_)
  · obtain ⟨a, ns, rfl, _⟩ := h
    rfl
  · obtain ⟨a, ns, rfl, sa, hl, hT, k⟩ := h
    have hu := hr.units0
    refine ⟨_, (pss_cons (ps_set (i := 1) sc_law.nd rfl (Or.inl rfl) (pe_callF c__law_whole (hr.mono (by decide)) (pa_cons (pv 0) pa_nil)))
      (pss_cons (ps_set (i := 2) sc_law.nd rfl (Or.inr rfl) (pe_op op_add pe_int (pe_op op_mod (pe_callF c__law_mixed (hr.mono (by decide)) (pa_cons (pv 1) (pa_cons pe_int pa_nil))) pe_int)))
      (pss_cons (ps_set (i := 3) sc_law.nd rfl (Or.inr rfl) (pe_op op_add pe_int (pe_op op_mod (pe_callF c__law_mixed (hr.mono (by decide)) (pa_cons (pv 1) (pa_cons pe_int pa_nil))) (pe_op op_fdivL pe_int (pv 2)))))
      (pss_cons (ps_set (i := 4) sc_law.nd rfl (Or.inl rfl) (pe_callB k_max2 rfl (T.own _ (by decide)) boot_max' (pa_cons pe_int (pa_cons (pe_callB k_min2 rfl (T.own _ (by decide)) boot_min' (pa_cons (pe_op op_fdivL (pe_callB (k_len (K := K)) rfl (T.own _ (by decide)) boot_len (pa_cons (pv 0) pa_nil)) (pv 2)) (pa_cons (pe_op op_fdivL pe_int (pv 2)) pa_nil))) pa_nil))))
      (pss_cons (ps_set (i := 5) sc_law.nd rfl (Or.inr rfl) (pe_slice (k_sll (K := K)) (pe_op (k_cat (K := K)) (pv 0) (pe_op op_rep (pe_lst (pa_cons pe_int pa_nil)) (pv 2))) po_none (po_some (pe_op op_mul (pv 4) (pv 2)))))
      (pss_cons (ps_set (i := 6) sc_law.nd rfl (Or.inr rfl) (pe_comp1 (pi_range1 rfl (T.own _ (by decide)) (pa_cons (pv 2) pa_nil)) (fun _ _ _ _ => pts_nil) (fun _ _ _ _ => (pe_comp1N (fr := [("_law_wide", 3)]) (k_pil (K := K) (pe_step (K := K) (pv 1) (pv 0) (pv 2))) (fun _ _ _ _ => pts_nil) (fun _ _ _ _ => (pe_op op_mod (pv 0) (pe_op op_shl pe_int (pv 1))))))))
      (pss_cons (ps_set (i := 15) sc_law.nd rfl (Or.inr rfl) (pe_comp1 (k_pil (K := K) (pv 6)) (fun _ _ _ _ => pts_nil) (fun _ _ _ _ => (pe_makeE m_Cloth (hr.mono (by decide)) passN (pa_cons (pv 1) (pa_cons (pv 0) pa_nil))))))
      (pss_cons (ps_for PassesOwn.never rfl (k_pit (K := K) (pe_tup (pa_cons (pe_lst (pa_cons pe_int (pa_cons pe_int (pa_cons pe_int (pa_cons pe_int pa_nil))))) (pa_cons (pe_lst (pa_cons pe_int (pa_cons pe_int (pa_cons pe_int (pa_cons pe_int pa_nil))))) (pa_cons (pe_lst (pa_cons pe_int (pa_cons pe_int (pa_cons pe_int (pa_cons pe_int pa_nil))))) pa_nil))))) (pg_name (i := 16) sc_law.nd rfl (Or.inr rfl)) (pss_cons (ps_comp1 (i := 7) sc_law.nd rfl (Or.inl rfl) (k_pil (K := K) (pv 16)) (fun _ _ _ _ => (pts_one (pt_cmpR op_lt (pv 0) (pv 1) (nomark _)))) (fun _ _ _ _ => (pv 0)))
      (pss_cons (ps_comp1 (i := 8) sc_law.nd rfl (Or.inl rfl) (k_pil (K := K) (pv 7)) (fun _ _ _ _ => pts_nil) (fun _ _ _ _ => (pe_ix (k_ixl (K := K)) (pv 1) (pv 0) (fun _ _ => rfl))))
      (pss_cons (ps_set (i := 9) sc_law.nd rfl (Or.inl rfl) (pe_callE c_woven_at_once (hr.mono (by decide)) passN (pa_cons (pv 8) pa_nil)))
      (pss_cons (ps_set (i := 10) sc_law.nd rfl (Or.inl rfl) (pe_callF c__law_due (hr.mono (by decide)) (pa_cons (pe_comp1 (k_pil (K := K) (pv 7)) (fun _ _ _ _ => pts_nil) (fun _ _ _ _ => (pe_ix (k_ixl (K := K)) (pv 1) (pv 0) (fun _ _ => rfl)))) (pa_cons (pv 3) pa_nil))))
      (pss_cons (ps_if (PW.pt (pw_or (pt_not (pt_val (pe_callB (k_isinC (K := K)) rfl (T.own _ (by decide)) boot_isinstance (pa_cons (pv 9) (pa_cons (pe_gC T.g_Cloth) pa_nil))))) (pw_or1 (pt_cmpR (op_neD hr.units) (pe_methF0 (pv 9) d_Cloth_told (hr.mono (by decide))) (pe_tup (pa_cons (pe_op op_mul (pv 3) (pv 2)) (pa_cons (pv 10) pa_nil))) (nomark _))))) (pss_one (ps_ret pe_bl)) pss_nil)
      (pss_one (ps_if (PW.pt (pw_or (pt_cmpR op_ne (pe_callB (k_len (K := K)) rfl (T.own _ (by decide)) boot_len (pa_cons (pv 8) pa_nil)) (pv 2) (nomark _)) (pw_or1 (pt_cmpR (op_neD hr.units) (pe_comp1 (k_pil (K := K) (pv 15)) (fun _ _ _ _ => pts_nil) (fun _ _ _ _ => (pe_methF0 (pv 0) d_Cloth_told (hr.mono (by decide))))) (pe_comp1 (k_pil (K := K) (pv 6)) (fun _ _ _ _ => pts_nil) (fun _ _ _ _ => (pe_tup (pa_cons (pv 1) (pa_cons (pv 0) pa_nil))))) (nomark _))))) (pss_one (ps_ret pe_bl)) pss_nil))))))))
      (pss_cons (ps_set (i := 12) sc_law.nd rfl (Or.inl rfl) (pe_makeE m_Cloth (hr.mono (by decide)) passN (pa_cons (pv 3) (pa_cons (pe_op op_rep (pe_lst (pa_cons pe_int pa_nil)) (pe_ifExp (pt_cmpR op_lt (pv 4) pe_int (nomark _)) (pe_op op_add (pv 4) pe_int) pe_int)) pa_nil))))
      (pss_cons (ps_for PassesOwn.never rfl (k_pit (K := K) (pe_tup (pa_cons (pe_makeE m_Cloth (hr.mono (by decide)) passN (pa_cons (pe_ifExp (pt_cmpR op_lt (pv 3) pe_int (nomark _)) (pe_op op_add (pv 3) pe_int) pe_int) (pa_cons (pe_op op_rep (pe_lst (pa_cons pe_int pa_nil)) (pv 4)) pa_nil))) (pa_cons (pv 12) pa_nil)))) (pg_name (i := 17) sc_law.nd rfl (Or.inr rfl)) (pss_one (ps_if (pt_cmpR (k_nel hu (K := K)) (pe_ix (k_ixt (K := K)) (pe_caughtF c__law_caught hr ⟨rfl, hd, hbt⟩ ["_law_other", "_law_handed"] [17, 15] (fun _ _ _ _ _ _ _ _ hrL => (pe_callE c_woven_at_once (hrL.mono (by decide)) (passL fun _ _ _ h => h) (pa_cons (pe_lst (pa_cons (pe_ix (k_ixl (K := K)) (pv 1) pe_int (fun _ _ => rfl)) (pa_cons (pv 0) pa_nil))) pa_nil))) (show lamChk _ _ _ ["_law_script", "_law_whole_here", "_law_many", "_law_wide", "_law_high", "_law_cells", "_law_rows", "_law_some", "_law_asked", "_law_found", "_law_due_here", "_law_one", "_law_taller", "_law_broad", "_law_tall", "_law_handed", "_law_order", "_law_other"] (defScope s_law).names = true by decide +kernel)) pe_int (fun _ _ => rfl)) (pe_lst (pa_cons pe_str pa_nil)) (nomark _)) (pss_one (ps_ret pe_bl)) pss_nil)))
      (pss_cons (ps_set (i := 7) sc_law.nd rfl (Or.inl rfl) (pe_lst (pa_cons (pe_makeE m_Cloth (hr.mono (by decide)) passN (pa_cons pe_int (pa_cons (pe_lst (pa_cons pe_int pa_nil)) pa_nil))) (pa_cons (pe_makeE m_Cloth (hr.mono (by decide)) passN (pa_cons pe_int (pa_cons (pe_lst (pa_cons pe_int pa_nil)) pa_nil))) (pa_cons (pe_makeE m_Cloth (hr.mono (by decide)) passN (pa_cons pe_int (pa_cons (pe_lst (pa_cons pe_int pa_nil)) pa_nil))) pa_nil)))))
      (pss_cons (ps_for PassesOwn.never rfl (k_pit (K := K) (pe_tup (pa_cons (pe_makeE m_Cloth (hr.mono (by decide)) passN (pa_cons pe_int (pa_cons (pe_lst (pa_cons pe_int pa_nil)) pa_nil))) (pa_cons (pe_makeE m_Cloth (hr.mono (by decide)) passN (pa_cons pe_int (pa_cons (pe_lst (pa_cons pe_int (pa_cons pe_int pa_nil))) pa_nil))) pa_nil)))) (pg_name (i := 17) sc_law.nd rfl (Or.inr rfl)) (pss_one (ps_for PassesOwn.never rfl (k_pit (K := K) (pe_tup (pa_cons (pe_lst (pa_cons (pe_ix (k_ixl (K := K)) (pv 7) pe_int (fun _ _ => rfl)) (pa_cons (pe_ix (k_ixl (K := K)) (pv 7) pe_int (fun _ _ => rfl)) (pa_cons (pv 17) pa_nil)))) (pa_cons (pe_op (k_cat (K := K)) (pv 7) (pe_lst (pa_cons (pv 17) pa_nil))) (pa_cons (pe_op (k_cat (K := K)) (pe_lst (pa_cons (pv 17) pa_nil)) (pv 7)) pa_nil))))) (pg_name (i := 16) sc_law.nd rfl (Or.inr rfl)) (pss_one (ps_if (pt_cmpR (k_nel hu (K := K)) (pe_ix (k_ixt (K := K)) (pe_caughtF c__law_caught hr ⟨rfl, hd, hbt⟩ ["_law_order"] [16] (fun _ _ _ _ _ _ _ _ hrL => (pe_callE c_woven_at_once (hrL.mono (by decide)) (passL fun _ _ _ h => h) (pa_cons (pv 0) pa_nil))) (show lamChk _ _ _ ["_law_script", "_law_whole_here", "_law_many", "_law_wide", "_law_high", "_law_cells", "_law_rows", "_law_some", "_law_asked", "_law_found", "_law_due_here", "_law_one", "_law_taller", "_law_broad", "_law_tall", "_law_handed", "_law_order", "_law_other"] (defScope s_law).names = true by decide +kernel)) pe_int (fun _ _ => rfl)) (pe_lst (pa_cons pe_str pa_nil)) (nomark _)) (pss_one (ps_ret pe_bl)) pss_nil)))))
      (pss_cons (ps_set (i := 13) sc_law.nd rfl (Or.inl rfl) (pe_makeE m_Cloth (hr.mono (by decide)) passN (pa_cons (pe_op op_add pe_int (pe_op op_mod (pe_callF c__law_mixed (hr.mono (by decide)) (pa_cons (pv 1) (pa_cons pe_int pa_nil))) pe_int)) (pa_cons (pe_lst (pa_cons pe_int pa_nil)) pa_nil))))
      (pss_cons (ps_set (i := 14) sc_law.nd rfl (Or.inl rfl) (pe_makeE m_Cloth (hr.mono (by decide)) passN (pa_cons pe_int (pa_cons (pe_op op_rep (pe_lst (pa_cons pe_int pa_nil)) (pe_op op_add pe_int (pe_op op_mod (pe_callF c__law_mixed (hr.mono (by decide)) (pa_cons (pv 1) (pa_cons pe_int pa_nil))) pe_int))) pa_nil))))
      (pss_cons (ps_for PassesOwn.never rfl (k_pit (K := K) (pe_tup (pa_cons (pv 13) (pa_cons (pv 14) pa_nil)))) (pg_name (i := 11) sc_law.nd rfl (Or.inr rfl)) (pss_one (ps_if (pt_cmpR (k_nel hu (K := K)) (pe_ix (k_ixt (K := K)) (pe_caughtF c__law_caught hr ⟨rfl, hd, hbt⟩ ["_law_one"] [11] (fun _ _ _ _ _ _ _ _ hrL => (pe_callE c_woven_at_once (hrL.mono (by decide)) (passL fun _ _ _ h => h) (pa_cons (pe_lst (pa_cons (pv 0) (pa_cons (pv 0) (pa_cons (pv 0) pa_nil)))) pa_nil))) (show lamChk _ _ _ ["_law_script", "_law_whole_here", "_law_many", "_law_wide", "_law_high", "_law_cells", "_law_rows", "_law_some", "_law_asked", "_law_found", "_law_due_here", "_law_one", "_law_taller", "_law_broad", "_law_tall", "_law_handed", "_law_order", "_law_other"] (defScope s_law).names = true by decide +kernel)) pe_int (fun _ _ => rfl)) (pe_lst (pa_cons pe_str pa_nil)) (nomark _)) (pss_one (ps_ret pe_bl)) pss_nil)))
      (pss_one (ps_ret pe_bl))))))))))))))))), ?_⟩
    (repeat (first | (with_reducible first | refine rd_seq ?_ | refine rd_asg ?_ | refine rd_nil ?_ | refine rd_cons ?_ | refine rd_call ?_) | (((with_reducible apply rd_var); exact rfl))))
    refine ⟨a, ns, rfl, sa, hl, fun H1 W s1 => ?_⟩
    (repeat (first | (with_reducible first | refine rd_seq ?_ | refine rd_asg ?_ | refine rd_name ?_ | refine rd_c ?_ | refine rd_op ?_ | refine rd_nil ?_ | refine rd_cons ?_ | refine rd_call ?_) | (((with_reducible apply rd_var); exact rfl))))
    refine ⟨W, 1, rfl, ⟨by decide, by decide⟩, ?_⟩
    (repeat (first | (with_reducible refine rd_c ?_)))
    refine rd_rI (by decide) ?_
    (repeat (first | (with_reducible first | refine rd_seq ?_ | refine rd_asg ?_ | refine rd_name ?_ | refine rd_c ?_ | refine rd_op ?_ | refine rd_rI0 ?_ | refine rd_nil ?_ | refine rd_cons ?_ | refine rd_call ?_) | (((with_reducible apply rd_var); exact rfl))))
    obtain ⟨many, eM, o1, o2⟩ : ∃ s : Nat, 1 + mixV W 1 % 4 = (s : Nat) ∧ 1 ≤ s ∧ s ≤ 4 := by
      have h0 := Int.emod_nonneg (mixV W 1) (show (4 : Int) ≠ 0 by decide)
      have h1 := Int.emod_lt_of_pos (mixV W 1) (show (0 : Int) < 4 by decide)
      exact ⟨(1 + mixV W 1 % 4).toNat, by (first | assumption | decide | omega), by (first | assumption | decide | omega), by (first | assumption | decide | omega)⟩
    rw [eM]
    refine ⟨W, 2, rfl, ⟨by decide, by decide⟩, ?_⟩
    (repeat (first | (with_reducible first | refine rd_c ?_ | refine rd_op ?_) | (((with_reducible apply rd_var); exact rfl))))
    refine rd_rI ⟨by (first | assumption | decide | omega), by (first | assumption | decide | omega)⟩ ?_
    have dO : 0 < 60 / many := by
      rw [Nat.div_pos_iff]
      first | assumption | decide | omega
    have dO2 : many * (60 / many) ≤ 60 := Nat.mul_div_le 60 many
    have dO3 : 60 / many ≤ 60 := Nat.div_le_self _ _
    have e60 : (60 : Int) / ((many : Nat) : Int) = ((60 / many : Nat) : Int) := by push_cast; rfl
    rw [e60]
    (skip)
    refine rd_rI (by show (0 : Int) < _; omega) ?_
    (repeat (first | (with_reducible first | refine rd_seq ?_ | refine rd_asg ?_ | refine rd_name ?_ | refine rd_c ?_ | refine rd_op ?_ | refine rd_rI0 ?_ | refine rd_nil ?_ | refine rd_cons ?_ | refine rd_cb ?_) | (((with_reducible apply rd_var); exact rfl))))
    obtain ⟨wide, eW, w1, w2⟩ : ∃ s : Nat, 1 + mixV W 2 % ((60 / many : Nat) : Int) = (s : Nat) ∧ 1 ≤ s ∧ s ≤ 60 / many := by
      have h0 := Int.emod_nonneg (mixV W 2) (show ((60 / many : Nat) : Int) ≠ 0 by (first | assumption | decide | omega))
      have h1 := Int.emod_lt_of_pos (mixV W 2) (show (0 : Int) < ((60 / many : Nat) : Int) by (first | assumption | decide | omega))
      exact ⟨(1 + mixV W 2 % ((60 / many : Nat) : Int)).toNat, by (first | assumption | decide | omega), by (first | assumption | decide | omega), by (first | assumption | decide | omega)⟩
    rw [eW]
    (skip)
    refine rd_lenL (s1.seq sa) ?_
    (repeat (first | (((with_reducible apply rd_var); exact rfl))))
    rw [List.length_map]
    refine rd_rI ⟨by (first | assumption | decide | omega), by (first | assumption | decide | omega)⟩ ?_
    rw [show ((ns.length : Nat) : Int) / ((many : Nat) : Int) = ((ns.length / many : Nat) : Int) by push_cast; rfl]
    (repeat (first | (with_reducible first | refine rd_c ?_ | refine rd_op ?_ | refine rd_cons ?_) | (((with_reducible apply rd_var); exact rfl))))
    refine rd_rI ⟨by (first | assumption | decide | omega), by (first | assumption | decide | omega)⟩ ?_
    rw [e60]
    (repeat (first | (with_reducible first | refine rd_seq ?_ | refine rd_asg ?_ | refine rd_name ?_ | refine rd_c ?_ | refine rd_op ?_ | refine rd_nil ?_ | refine rd_cons ?_ | refine rd_lst ?_ | refine rd_sl ?_ | refine rd_max2 ?_ | refine rd_min2 ?_) | (((with_reducible apply rd_var); exact rfl)) | (((with_reducible refine rd_len ?_ ?_); exact Nat.le_of_ble_eq_true rfl))))
    have lm1 : many * (ns.length / many) ≤ ns.length := Nat.mul_div_le _ _
    obtain ⟨high, eHi, h1, h2, h3⟩ : ∃ s : Nat, (if (if ((60 / many : Nat) : Int) < ((ns.length / many : Nat) : Int) then ((60 / many : Nat) : Int) else ((ns.length / many : Nat) : Int)) > 1 then (if ((60 / many : Nat) : Int) < ((ns.length / many : Nat) : Int) then ((60 / many : Nat) : Int) else ((ns.length / many : Nat) : Int)) else 1) = (s : Nat) ∧ 1 ≤ s ∧ s ≤ 60 / many ∧ s * many ≤ ns.length + many := by
      exact high_at dO lm1
    rw [eHi]
    clear eHi
    intro l1 hl1
    have s2 := same_new (o := HO.lst [V.int 1]) hl1
    have k1 : upd H1 l1 (HO.lst [V.int 1]) l1 = _ := upd_same
    generalize upd H1 l1 (HO.lst [V.int 1]) = H2 at s2 k1 ⊢
    (repeat (first | (((with_reducible apply rd_var); exact rfl))))
    refine rd_rep k1 (by (first | assumption | decide | omega)) (by (first | assumption | decide | omega)) (by simp) fun l2 hl2 => ?_
    rw [show (List.replicate ((many : Nat) : Int).toNat [V.int 1]).flatten = (List.replicate many (1 : Int)).map V.int by
      rw [Int.toNat_natCast, List.map_replicate]
      simp]
    have s3 := same_new (o := HO.lst ((List.replicate many (1 : Int)).map V.int)) hl2
    have k2 : upd H2 l2 (HO.lst ((List.replicate many (1 : Int)).map V.int)) l2 = _ := upd_same
    generalize upd H2 l2 (HO.lst ((List.replicate many (1 : Int)).map V.int)) = H3 at s3 k2 ⊢
    have s13 := s1.trans (s2.trans s3)
    (skip)
    refine rd_cat (s13.seq sa) (SqL.of k2) (by simp; omega) fun l3 hl3 => ?_
    rw [← List.map_append]
    have s4 := same_new (o := HO.lst ((ns ++ List.replicate many (1 : Int)).map V.int)) hl3
    have k3 : upd H3 l3 (HO.lst ((ns ++ List.replicate many (1 : Int)).map V.int)) l3 = _ := upd_same
    generalize upd H3 l3 (HO.lst ((ns ++ List.replicate many (1 : Int)).map V.int)) = H4 at s4 k3 ⊢
    (repeat (first | (with_reducible first | refine rd_op ?_ | refine rd_part ?_ | refine rd_noPart ?_) | (((with_reducible apply rd_var); exact rfl))))
    have hb : high * many ≤ 60 := by
      rw [Nat.mul_comm]
      exact Nat.le_trans (Nat.mul_le_mul_left many h2) dO2
    have hb2 : high ≤ 60 := Nat.le_trans h2 dO3
    refine rd_rI (.inl ⟨by (first | assumption | decide | omega), by (first | assumption | decide | omega)⟩) ?_
    rw [show ((high : Nat) : Int) * ((many : Nat) : Int) = ((high * many : Nat) : Int) by push_cast; rfl]
    (repeat (first | (with_reducible refine rd_int ?_)))
    refine rd_slL (SqL.of k3) fun l4 hl4 => ?_
    rw [cut_to (by (first | assumption | decide | omega)), Int.toNat_natCast, ← List.map_take]
    have lc : ((ns ++ List.replicate many (1 : Int)).take (high * many)).length = high * many := by
      rw [List.length_take, List.length_append, List.length_replicate]
      first | assumption | decide | omega
    generalize (ns ++ List.replicate many (1 : Int)).take (high * many) = cells at lc ⊢
    have s5 := same_new (o := HO.lst (cells.map V.int)) hl4
    have k4 : upd H4 l4 (HO.lst (cells.map V.int)) l4 = _ := upd_same
    generalize upd H4 l4 (HO.lst (cells.map V.int)) = H5 at s5 k4 ⊢
    have s15 := s13.trans (s4.trans s5)
    have qT := s15 _ _ hT
    have hw60 : wide ≤ 60 := Nat.le_trans w2 dO3
    clear k1 k2 k3 hl1 hl2 hl3 hl4 s1 s2 s3 s4 s5 s13 s15 sa hT h3 lm1
    (repeat (first | (with_reducible first | refine rd_seq ?_ | refine rd_asg ?_ | refine rd_name ?_ | refine rd_nil ?_ | refine rd_cons ?_ | refine rd_comp ?_ | refine rd_i1 ?_) | (((with_reducible apply rd_var); exact rfl))))
    refine ⟨_, rfl, by (first | assumption | decide | omega), by (first | assumption | decide | omega), fun D hD => ?_⟩
    rw [Int.toNat_natCast]
    refine comp_any (Pv := fun i y H' => ∃ x, y = .ref x ∧ x ≠ D ∧ H' x = some (.lst (((List.range high).map fun j => (cells.getD (i + many * j) 0 % (2 ^ wide : Nat)).toNat).map nV))) (src_range0 rfl) hD (by (first | assumption | decide | omega)) ?_ ?_ ?_ ?_
    · rintro i y Ha Hb ⟨x, e1, e2, e3⟩ s
      exact ⟨x, e1, e2, s _ _ e3⟩
    · rintro i y Ha ys o s ⟨x, e1, e2, e3⟩ _
      exact ⟨x, e1, e2, by rw [upd_ne e2]; exact e3⟩
    · rintro i H' R hi s ⟨ys, hys⟩ kk
      (repeat (first | (with_reducible first | refine rd_comp ?_ | refine rd_iL ?_)))
      refine rd_step ?_
      (repeat (first | (((with_reducible apply rd_var); exact rfl))))
      refine ⟨l4, _, high, many, i, rfl, rfl, rfl, SqL.of (s _ _ k4), by rw [List.length_map]; exact lc, hi, fun q hq => ?_⟩
      have z1 := same_new (o := HO.lst ((List.range high).map fun j => (cells.map V.int).getD (i + many * j) .non)) hq
      have bnd : ∀ j, j < high → i + many * j < cells.length := fun j hj => by
        rw [lc]
        have : many * (j + 1) ≤ many * high := Nat.mul_le_mul_left many hj
        rw [Nat.mul_add, Nat.mul_one, Nat.mul_comm many high] at this
        first | assumption | decide | omega
      have kq : upd H' q (HO.lst ((List.range high).map fun j => (cells.map V.int).getD (i + many * j) .non)) q = some (.lst (((List.range high).map fun j => cells.getD (i + many * j) 0).map V.int)) := by
        rw [upd_same, List.map_map]
        refine congrArg (fun z => some (HO.lst z)) (List.map_congr_left fun j hj => ?_)
        exact getD_int (by rw [List.length_map]; exact bnd j (List.mem_range.mp hj))
      generalize upd H' q (HO.lst ((List.range high).map fun j => (cells.map V.int).getD (i + many * j) .non)) = H6 at z1 kq ⊢
      (skip)
      refine ⟨q, rfl, ⟨_, SqL.of kq⟩, fun D2 hD2 => ?_⟩
      refine ints_comp (G := fun j => (((cells.getD (i + many * j) 0 % (2 ^ wide : Nat)).toNat : Nat) : Int)) (src_list (SqL.of kq) rfl) hD2 (by simp; omega) ?_ ?_
      · intro j H7 R7 hj s7 kk7
        rw [getD_int hj]
        have hj' : j < high := by simpa using hj
        rw [show ((List.range high).map fun j => cells.getD (i + many * j) 0).getD j 0 = cells.getD (i + many * j) 0 from getD_rmap (fun j => cells.getD (i + many * j) 0) hj']
        (repeat (first | (with_reducible first | refine rd_c ?_ | refine rd_op ?_) | (((with_reducible apply rd_var); exact rfl))))
        refine rd_rI ⟨by (first | assumption | decide | omega), by (first | assumption | decide | omega), by decide⟩ ?_
        (skip)
        refine rd_rI (pw_pos wide) ?_
        rw [md_nat]
        exact kk7 H7 (Same.refl _)
      · intro H7 s7 hl7
        rw [natsL, List.length_map, List.length_map, List.length_range] at hl7
        refine kk H7 _ (z1.trans s7) ⟨D2, rfl, fun z => ?_, hl7⟩
        rw [z, z1 _ _ hys] at hD2
        cases hD2
    intro H6 rs6 s6 g6 lr el6
    obtain ⟨cs, lcs, ecs⟩ : ∃ cs : List Cl, cs.length = many ∧ ∀ i, i < many → (cs.getD i cl0).1 = wide ∧ (cs.getD i cl0).2 = (List.range high).map fun j => (cells.getD (i + many * j) 0 % (2 ^ wide : Nat)).toNat := by
      refine ⟨(List.range many).map fun i => (wide, (List.range high).map fun j => (cells.getD (i + many * j) 0 % (2 ^ wide : Nat)).toNat), by simp, fun i hi => ?_⟩
      have e := List.getElem?_eq_getElem (l := (List.range many).map fun i => ((wide, (List.range high).map fun j => (cells.getD (i + many * j) 0 % (2 ^ wide : Nat)).toNat) : Cl)) (i := i) (by simpa using hi)
      rw [List.getD_eq_getElem?_getD, e]
      simp
    have cW : ∀ i, i < many → (cs.getD i cl0).1 = wide := fun i hi => (ecs i hi).1
    have cL : ∀ i, i < many → (cs.getD i cl0).2.length = high := fun i hi => by rw [(ecs i hi).2]; simp
    have cOk : ∀ i, i < many → ClOk wide (cs.getD i cl0).2 := fun i hi => ⟨w1, hw60, by rw [cL i hi]; exact h1, by rw [cL i hi]; exact hb2, fun r hr => by
      rw [(ecs i hi).2] at hr
      obtain ⟨j, _, rfl⟩ := List.mem_map.mp hr
      exact md_lt _ _⟩
    have La : LsAt H6 D cs := ⟨rs6, g6, by (first | assumption | decide | omega), fun i hi => by
      have e := List.getElem?_eq_getElem (l := rs6) (i := i) (by (first | assumption | decide | omega))
      obtain ⟨x, e1, _, e3⟩ := el6 i _ e
      refine ⟨x, by rw [List.getD_eq_getElem?_getD, e, e1]; rfl, ?_⟩
      rw [(ecs i (by (first | assumption | decide | omega))).2]
      exact e3⟩
    have qT := s6 _ _ qT
    clear el6 ecs g6 k4 lr
    (repeat (first | (with_reducible first | refine rd_seq ?_ | refine rd_asg ?_ | refine rd_name ?_ | refine rd_comp ?_ | refine rd_iL ?_) | (((with_reducible apply rd_var); exact rfl))))
    obtain ⟨vr, gr, lvr, er⟩ := id La
    refine ⟨D, rfl, ⟨_, SqL.of gr⟩, fun dh hdh => ?_⟩
    refine comp_any (Pv := fun i y H' => ∃ x, y = .ref x ∧ ClAt c.Cloth H' x wide (cs.getD i cl0).2) (src_list (SqL.of gr) rfl) hdh (by (first | assumption | decide | omega)) ?_ ?_ ?_ ?_
    · rintro i y Ha Hb ⟨x, e1, e2⟩ s
      exact ⟨x, e1, e2.same s⟩
    · rintro i y Ha ys o s ⟨x, e1, ⟨dx, t, g1, g2⟩⟩ g3
      refine ⟨x, e1, dx, t, ?_, ?_⟩
      · rw [upd_ne (ne_of g1 g3 (by intro z; cases z))]; exact g1
      · rw [upd_ne (ne_of g2 g3 (by intro z; cases z))]; exact g2
    · rintro i H' R hi s ⟨ys, hys⟩ kk
      obtain ⟨x, ex, gx⟩ := er i (by (first | assumption | decide | omega))
      rw [ex]
      (repeat (first | (with_reducible first | refine rd_nil ?_ | refine rd_cons ?_ | refine rd_make ?_) | (((with_reducible apply rd_var); exact rfl))))
      exact cl_mk (s _ _ gx) (cOk i (by (first | assumption | decide | omega))) fun H7 y s7 _ C7 => kk H7 _ s7 ⟨y, rfl, C7⟩
    intro H7 hs7 s7 g7 lh el7
    have Ca : ∀ i, i < many → ∃ x, hs7.getD i .non = .ref x ∧ ClAt c.Cloth H7 x wide (cs.getD i cl0).2 := fun i hi => by
      have e := List.getElem?_eq_getElem (l := hs7) (i := i) (by (first | assumption | decide | omega))
      obtain ⟨x, e1, e3⟩ := el7 i _ e
      exact ⟨x, by rw [List.getD_eq_getElem?_getD, e, e1]; rfl, e3⟩
    have lh7 : hs7.length = many := by (first | assumption | decide | omega)
    have La := La.same s7
    have qT := s7 _ _ qT
    clear el7 lh er gr lvr s7 s6
    (repeat (first | (with_reducible first | refine rd_seq ?_ | refine rd_name ?_ | refine rd_c ?_ | refine rd_nil ?_ | refine rd_cons ?_ | refine rd_lst ?_ | refine rd_tup ?_ | refine rd_for ?_ | refine rd_iT ?_) | (((with_reducible refine rd_len ?_ ?_); exact Nat.le_of_ble_eq_true rfl))))
    intro l1 hl1
    have s1 := same_new (o := HO.lst [V.int 0, V.int 1, V.int 2, V.int 3]) hl1
    have j1 : upd H7 l1 (HO.lst [V.int 0, V.int 1, V.int 2, V.int 3]) l1 = _ := upd_same
    generalize upd H7 l1 (HO.lst [V.int 0, V.int 1, V.int 2, V.int 3]) = H8 at s1 j1 ⊢
    (repeat (first | (with_reducible first | refine rd_c ?_ | refine rd_nil ?_ | refine rd_cons ?_ | refine rd_lst ?_) | (((with_reducible refine rd_len ?_ ?_); exact Nat.le_of_ble_eq_true rfl))))
    intro l2 hl2
    have s2 := same_new (o := HO.lst [V.int 3, V.int 2, V.int 1, V.int 0]) hl2
    have j2 : upd H8 l2 (HO.lst [V.int 3, V.int 2, V.int 1, V.int 0]) l2 = _ := upd_same
    generalize upd H8 l2 (HO.lst [V.int 3, V.int 2, V.int 1, V.int 0]) = H9 at s2 j2 ⊢
    (repeat (first | (with_reducible first | refine rd_c ?_ | refine rd_nil ?_ | refine rd_cons ?_ | refine rd_lst ?_) | (((with_reducible refine rd_len ?_ ?_); exact Nat.le_of_ble_eq_true rfl))))
    intro l3 hl3
    have s3 := same_new (o := HO.lst [V.int 0, V.int 1, V.int 2, V.int 3]) hl3
    have j3 : upd H9 l3 (HO.lst [V.int 0, V.int 1, V.int 2, V.int 3]) l3 = _ := upd_same
    generalize upd H9 l3 (HO.lst [V.int 0, V.int 1, V.int 2, V.int 3]) = H10 at s3 j3 ⊢
    (repeat (first | (with_reducible refine rd_nil ?_) | (((with_reducible refine rd_len ?_ ?_); exact Nat.le_of_ble_eq_true rfl))))
    intro lt hlt
    have s4 := same_new (o := HO.tup [V.ref l1, V.ref l2, V.ref l3]) hlt
    have gt : upd H10 lt (HO.tup [V.ref l1, V.ref l2, V.ref l3]) lt = _ := upd_same
    generalize upd H10 lt (HO.tup [V.ref l1, V.ref l2, V.ref l3]) = H11 at s4 gt ⊢
    have sm : ∀ i, i < 3 → ∃ l, ∃ os : List Nat, [V.ref l1, V.ref l2, V.ref l3].getD i .non = .ref l ∧ H11 l = some (.lst (os.map nV)) ∧ (os = [0, 1, 2, 3] ∨ os = [3, 2, 1, 0]) := by
      intro i hi
      match i, hi with
      | 0, _ => exact ⟨l1, [0, 1, 2, 3], rfl, s4 _ _ (s3 _ _ (s2 _ _ j1)), .inl rfl⟩
      | 1, _ => exact ⟨l2, [3, 2, 1, 0], rfl, s4 _ _ (s3 _ _ j2), .inr rfl⟩
      | 2, _ => exact ⟨l3, [0, 1, 2, 3], rfl, s4 _ _ j3, .inl rfl⟩
    have sB : Same H7 H11 := s1.trans (s2.trans (s3.trans s4))
    clear j1 j2 j3 s1 s2 s3 s4 hl1 hl2 hl3 hlt
    refine ⟨lt, rfl, ⟨_, SqT.of gt⟩, for_src (fs_tup (SqT.of gt)) (fun i σ H3 => ∃ u1 u2 u3 u4 u5, σ = [some (.ref a), some (.int W), some (nV many), some (nV wide), some (nV high), some (.ref l4), some (.ref D), u1, u2, u3, u4, none, none, none, none, some (.ref dh), u5, none] ∧ Same H11 H3) ⟨_, _, _, _, _, rfl, Same.refl _⟩ (fun i σ H3 ⟨_, _, _, _, _, _, s⟩ => s) ?_ ?_⟩
    · rintro i σ H' H12 hi3 ⟨u1, u2, u3, u4, u5, rfl, s'⟩ s12
      obtain ⟨l, os, el, gl, ho⟩ := sm i hi3
      have sC := s'.trans s12
      have sD := sB.trans sC
      rw [el]
      clear el
      have gl := sC _ _ gl
      have los : os.length = 4 := by rcases ho with rfl | rfl <;> rfl
      obtain ⟨lπ, bπ⟩ := ordF_at ho o1 o2
      (repeat (first | (with_reducible first | refine rd_seq ?_ | refine rd_asg ?_ | refine rd_comp ?_ | refine rd_iL ?_) | (((with_reducible apply rd_var); exact rfl))))
      refine ⟨l, rfl, ⟨_, SqL.of gl⟩, fun D1 hD1 => ?_⟩
      refine ints_compF (p := fun i => decide (os.getD i 0 < many)) (G := fun i => ((os.getD i 0 : Nat) : Int)) (src_list (SqL.of gl) rfl) hD1 (by rw [List.length_map, los]; decide) ?_ ?_ ?_
      · intro i H' R hi s kk
        rw [getD_nat hi]
        (repeat (first | (with_reducible first | refine rd_op ?_ | refine rd_rI0 ?_ | refine rd_test ?_ | refine rd_bl ?_) | (((with_reducible apply rd_var); exact rfl))))
        rw [show decide (((os.getD i 0 : Nat) : Int) < ((many : Nat) : Int)) = decide (os.getD i 0 < many) from decide_eq_decide.mpr Int.ofNat_lt]
        exact kk H' (Same.refl _)
      · intro i H' R hi hp s kk
        rw [getD_nat hi]
        (repeat (first | (((with_reducible apply rd_var); exact rfl))))
        exact kk H' (Same.refl _)
      intro H13 s13 gπ
      have gπ : H13 D1 = some (.lst ((ordF os many).map nV)) := by
        rw [gπ, List.length_map, los]
        unfold ordF
        rw [List.map_map, List.map_map]
        rfl
      generalize ordF os many = π at lπ bπ gπ
      have bg : ∀ i, i < many → π.getD i 0 < many := fun i hi => bπ _ (getD_mem (by (first | assumption | decide | omega)))
      have sE := sD.trans s13
      (repeat (first | (with_reducible first | refine rd_seq ?_ | refine rd_asg ?_ | refine rd_name ?_ | refine rd_comp ?_ | refine rd_iL ?_) | (((with_reducible apply rd_var); exact rfl))))
      refine ⟨D1, rfl, ⟨_, SqL.of gπ⟩, fun D2 hD2 => ?_⟩
      refine comp_any (Pv := fun i y H' => ∃ x, y = .ref x ∧ ClAt c.Cloth H' x wide (cs.getD (π.getD i 0) cl0).2) (src_list (SqL.of gπ) rfl) hD2 (by rw [List.length_map]; omega) ?_ ?_ ?_ ?_
      · rintro i y Ha Hb ⟨x, e1, e2⟩ s
        exact ⟨x, e1, e2.same s⟩
      · rintro i y Ha ys o s ⟨x, e1, ⟨dx, t, g1, g2⟩⟩ g3
        refine ⟨x, e1, dx, t, ?_, ?_⟩
        · rw [upd_ne (ne_of g1 g3 (by intro z; cases z))]; exact g1
        · rw [upd_ne (ne_of g2 g3 (by intro z; cases z))]; exact g2
      · rintro i H' R hi s ⟨ys, hys⟩ kk
        have hi' : i < many := by simpa [lπ] using hi
        rw [getD_nat hi]
        obtain ⟨x, ex, Cx⟩ := Ca (π.getD i 0) (bg i hi')
        (repeat (first | (with_reducible refine rd_op ?_) | (((with_reducible apply rd_var); exact rfl))))
        refine rd_ixL (SqL.of (s _ _ (sE _ _ g7))) (atI_nat (j := π.getD i 0) (getD_some ex)) ?_
        exact kk H' _ (Same.refl _) ⟨x, rfl, Cx.same (sE.trans s)⟩
      intro H14 as s14 gA lA elA
      rw [List.length_map] at lA
      have lC : (π.map fun k => cs.getD k cl0).length = many := by rw [List.length_map]; exact lπ
      have gC : ∀ i, i < many → (π.map fun k => cs.getD k cl0).getD i cl0 = cs.getD (π.getD i 0) cl0 := fun i hi => getD_map0 (by (first | assumption | decide | omega))
      generalize (π.map fun k => cs.getD k cl0) = cp at lC gC
      have pW : ∀ i, i < cp.length → (cp.getD i cl0).1 = wide := fun i hi => by rw [gC i (by (first | assumption | decide | omega))]; exact cW _ (bg i (by (first | assumption | decide | omega)))
      have pL : ∀ i, i < cp.length → (cp.getD i cl0).2.length = high := fun i hi => by rw [gC i (by (first | assumption | decide | omega))]; exact cL _ (bg i (by (first | assumption | decide | omega)))
      have pOk : ∀ i, i < cp.length → ClOk wide (cp.getD i cl0).2 := fun i hi => by rw [gC i (by (first | assumption | decide | omega))]; exact cOk _ (bg i (by (first | assumption | decide | omega)))
      have As : ClsAt c H14 D2 cp := ⟨as, gA, by (first | assumption | decide | omega), fun i hi => by
        have e := List.getElem?_eq_getElem (l := as) (i := i) (by (first | assumption | decide | omega))
        obtain ⟨x, e1, e3⟩ := elA i _ e
        refine ⟨x, by rw [List.getD_eq_getElem?_getD, e, e1]; rfl, ?_⟩
        rw [pW i hi, gC i (by (first | assumption | decide | omega))]
        exact e3⟩
      have fitC : wFit cp = true := by
        unfold wFit likeB
        rw [pW 0 (by (first | assumption | decide | omega)), pL 0 (by (first | assumption | decide | omega)), lC, decide_eq_true (by rw [Nat.mul_comm]; exact Nat.le_trans (Nat.mul_le_mul_left many w2) dO2), decide_eq_true hb, Bool.and_true, Bool.and_true, List.all_eq_true]
        intro i hi
        have hi := List.mem_range.mp hi
        rw [pW i (by (first | assumption | decide | omega)), pL i (by (first | assumption | decide | omega))]
        simp
      (repeat (first | (with_reducible first | refine rd_seq ?_ | refine rd_asg ?_ | refine rd_name ?_ | refine rd_nil ?_ | refine rd_cons ?_ | refine rd_call ?_) | (((with_reducible apply rd_var); exact rfl))))
      refine ⟨D2, cp, rfl, As, fun i hi => by rw [pW i hi]; exact pOk i hi, by (first | assumption | decide | omega), by (first | assumption | decide | omega), fun _ H15 u s15 hu15 Cu => ?_, fun n => (by rw [fitC] at n; cases n)⟩
      rw [pW 0 (by (first | assumption | decide | omega)), pL 0 (by (first | assumption | decide | omega)), lC] at Cu
      have sF := s14.trans s15
      have sG := sE.trans sF
      (repeat (first | (with_reducible first | refine rd_seq ?_ | refine rd_asg ?_ | refine rd_name ?_ | refine rd_cons ?_ | refine rd_call ?_ | refine rd_comp ?_ | refine rd_iL ?_) | (((with_reducible apply rd_var); exact rfl))))
      have gπ5 := sF _ _ gπ
      obtain ⟨vr, gr, lvr, er⟩ := La.same sG
      refine ⟨D1, rfl, ⟨_, SqL.of gπ5⟩, fun D3 hD3 => ?_⟩
      refine comp_any (Pv := fun i y H' => ∃ x, y = .ref x ∧ x ≠ D3 ∧ H' x = some (.lst ((cs.getD (π.getD i 0) cl0).2.map nV))) (src_list (SqL.of gπ5) rfl) hD3 (by rw [List.length_map]; omega) ?_ ?_ ?_ ?_
      · rintro i y Ha Hb ⟨x, e1, e2, e3⟩ s
        exact ⟨x, e1, e2, s _ _ e3⟩
      · rintro i y Ha ys o s ⟨x, e1, e2, e3⟩ _
        exact ⟨x, e1, e2, by rw [upd_ne e2]; exact e3⟩
      · rintro i H' R hi s ⟨ys, hys⟩ kk
        have hi' : i < many := by simpa [lπ] using hi
        rw [getD_nat hi]
        obtain ⟨x, ex, gx⟩ := er (π.getD i 0) (by rw [lcs]; exact bg i hi')
        (repeat (first | (with_reducible refine rd_op ?_) | (((with_reducible apply rd_var); exact rfl))))
        refine rd_ixL (SqL.of (s _ _ gr)) (atI_nat (j := π.getD i 0) (getD_some ex)) ?_
        exact kk H' _ (Same.refl _) ⟨x, rfl, (fun z => by rw [z, hD3] at gx; cases gx), s _ _ gx⟩
      intro H16 bs s16 gB lB elB
      rw [List.length_map] at lB
      have Lp : LsAt H16 D3 cp := ⟨bs, gB, by (first | assumption | decide | omega), fun i hi => by
        have e := List.getElem?_eq_getElem (l := bs) (i := i) (by (first | assumption | decide | omega))
        obtain ⟨x, e1, _, e3⟩ := elB i _ e
        refine ⟨x, by rw [List.getD_eq_getElem?_getD, e, e1]; rfl, ?_⟩
        rw [gC i (by (first | assumption | decide | omega))]
        exact e3⟩
      (repeat (first | (with_reducible first | refine rd_nil ?_ | refine rd_cons ?_) | (((with_reducible apply rd_var); exact rfl))))
      refine ⟨D3, cp, wide, high, rfl, Lp, by (first | assumption | decide | omega), by (first | assumption | decide | omega), hw60, hb2, pL, fun H17 dDue s17 hDue gDue => ?_⟩
      rw [← wRows_eq (P := high) pW (by (first | assumption | decide | omega)) (fun p i hp hi => (pOk i hi).lt ((cp.getD i cl0).2.getD p 0) (getD_mem (by rw [pL i hi]; exact hp))) high (Nat.le_refl _)] at gDue
      have sH := s16.trans s17
      have sI := sG.trans sH
      have Cu := Cu.same sH
      obtain ⟨du, tu, gu, gu2⟩ := id Cu
      (repeat (first | (with_reducible first | refine rd_seq ?_ | refine rd_name ?_ | refine rd_c ?_ | refine rd_not ?_ | refine rd_tB ?_ | refine rd_or ?_ | refine rd_nil ?_ | refine rd_cons ?_ | refine rd_cb ?_) | (((with_reducible apply rd_var); exact rfl)) | (with_reducible refine rd_ifS ?_)))
      refine rd_isinC (T.kd_Cloth.ty gu) T.is_Cloth ?_
      (repeat (first | (with_reducible first | refine rd_op ?_ | refine rd_test ?_ | refine rd_bl ?_ | refine iteNF ?_ | refine rd_meth ?_) | (((with_reducible apply rd_var); exact rfl))))
      refine ⟨_, _, _, rfl, gu, rfl, ?_⟩
      (repeat (first | (with_reducible refine rd_nil ?_)))
      refine ⟨u, _, _, rfl, Cu, fun H18 pt lt2 s18 hpt hlt2 q1 q2 => ?_⟩
      (repeat (first | (with_reducible first | refine rd_op ?_ | refine rd_cons ?_ | refine rd_tup ?_) | (((with_reducible apply rd_var); exact rfl))))
      have mwb : wide * many ≤ 60 := by rw [Nat.mul_comm]; exact Nat.le_trans (Nat.mul_le_mul_left many w2) dO2
      refine rd_rI (.inl ⟨by (first | assumption | decide | omega), by (first | assumption | decide | omega)⟩) ?_
      rw [show ((wide : Nat) : Int) * ((many : Nat) : Int) = ((wide * many : Nat) : Int) by push_cast; rfl]
      (repeat (first | (with_reducible first | refine rd_nil ?_ | refine rd_cons ?_) | (((with_reducible apply rd_var); exact rfl)) | (((with_reducible refine rd_len ?_ ?_); exact Nat.le_of_ble_eq_true rfl))))
      intro pE hpE
      have s19 := same_new (o := HO.tup [nV (wide * many), V.ref dDue]) hpE
      have gE : upd H18 pE (HO.tup [nV (wide * many), V.ref dDue]) pE = _ := upd_same
      generalize upd H18 pE (HO.tup [nV (wide * many), V.ref dDue]) = H19 at s19 gE ⊢
      have lgr := wRows_len cp high
      rw [lC] at lgr
      (skip)
      refine ⟨2, .tup [dN (wide * many), dL (wRows cp high)], .tup [dN (wide * many), dL (wRows cp high)], by decide, rp_twoT (s19 _ _ q1) (.int _) (rp_L (s19 _ _ q2) trivial (by (first | assumption | decide | omega))), rp_twoT gE (.int _) (rp_L (s19 _ _ (s18 _ _ gDue)) trivial (by (first | assumption | decide | omega))), rfl, ?_⟩
      rw [eqD_refl, if_pos rfl]
      (repeat (first | (with_reducible first | refine rd_op ?_ | refine rd_test ?_ | refine rd_bl ?_ | refine rd_or ?_ | refine rd_nil ?_ | refine rd_cons ?_ | refine rd_cb ?_ | refine rd_next ?_ | refine iteNF ?_) | (((with_reducible apply rd_var); exact rfl)) | (with_reducible refine rd_ifS ?_)))
      have sJ := sH.trans (s18.trans s19)
      have sK := sG.trans sJ
      refine rd_lenL (SqL.of (sJ _ _ (s15 _ _ gA))) ?_
      (repeat (first | (with_reducible first | refine rd_neI ?_ | refine rd_bl ?_) | (((with_reducible apply rd_var); exact rfl))))
      rw [decide_eq_true (by (first | assumption | decide | omega))]
      refine iteNF ?_
      have gh := sK _ _ g7
      (repeat (first | (with_reducible first | refine rd_op ?_ | refine rd_test ?_ | refine rd_comp ?_ | refine rd_iL ?_) | (((with_reducible apply rd_var); exact rfl))))
      refine ⟨dh, rfl, ⟨_, SqL.of gh⟩, fun D4 hD4 => ?_⟩
      refine comp_map (m := 2) (G := fun i => Dt.tup [dN wide, dL (cs.getD i cl0).2]) (src_list (SqL.of gh) rfl) hD4 (by (first | assumption | decide | omega)) ?_ ?_
      · intro i H' R hi s kk
        obtain ⟨x, ex, Cx⟩ := Ca i (by (first | assumption | decide | omega))
        rw [ex]
        have C' := Cx.same (sK.trans s)
        obtain ⟨dx, tx, gx, _⟩ := id C'
        (repeat (first | (with_reducible refine rd_meth ?_) | (((with_reducible apply rd_var); exact rfl))))
        refine ⟨_, _, _, rfl, gx, rfl, ?_⟩
        (repeat (first | (with_reducible refine rd_nil ?_)))
        refine ⟨x, _, _, rfl, C', fun H3 p l s3 hp hl q1 q2 => ?_⟩
        exact kk H3 _ s3 (rp_twoT q1 (.int _) (rp_L q2 hl (by rw [cL i (by (first | assumption | decide | omega))]; omega)))
      intro H20 ys s20 gD4 rD4
      obtain ⟨vr, gr, lvr, er⟩ := La.same (sK.trans s20)
      (repeat (first | (with_reducible first | refine rd_comp ?_ | refine rd_iL ?_) | (((with_reducible apply rd_var); exact rfl))))
      refine ⟨D, rfl, ⟨_, SqL.of gr⟩, fun D5 hD5 => ?_⟩
      refine comp_any (Pv := fun i y H' => Rp H' (fun a => a ≠ D5) 2 y (Dt.tup [dN wide, dL (cs.getD i cl0).2])) (src_list (SqL.of gr) rfl) hD5 (by (first | assumption | decide | omega)) ?_ ?_ ?_ ?_
      · intro i y Ha Hb r s
        exact r.same s
      · intro i y Ha ys o s r g
        exact r.off g fun z => z rfl
      · rintro i H' R hi s ⟨ys, hys⟩ kk
        obtain ⟨x, ex, gx⟩ := er i (by (first | assumption | decide | omega))
        rw [ex]
        (repeat (first | (with_reducible first | refine rd_nil ?_ | refine rd_cons ?_ | refine rd_tup ?_) | (((with_reducible apply rd_var); exact rfl)) | (((with_reducible refine rd_len ?_ ?_); exact Nat.le_of_ble_eq_true rfl))))
        intro p hp
        have sp := same_new (o := HO.tup [nV wide, V.ref x]) hp
        exact kk _ _ sp (rp_twoT upd_same (.int _) (rp_L (sp _ _ (s _ _ gx)) (fun z => by rw [z, hD5] at gx; cases gx) (by rw [cL i (by (first | assumption | decide | omega))]; omega)))
      intro H21 zs s21 gD5 lz elz
      (skip)
      have sL : Same H11 H21 := sC.trans (s13.trans (sF.trans (sJ.trans (s20.trans s21))))
      have r2 : Rp H21 FT 3 (.ref D5) (.lst ((List.range many).map fun i => Dt.tup [dN wide, dL (cs.getD i cl0).2])) := by
        refine .lst gD5 trivial (by (first | assumption | decide | omega)) (by rw [List.length_map, List.length_range]; omega) fun i v d e1 e2 => ?_
        have hi : i < many := by
          have := (List.getElem?_eq_some_iff.mp e2).1
          simpa using this
        rw [List.getElem?_map, List.getElem?_range hi] at e2
        cases e2
        exact (elz i v e1).any
      rw [lh7] at rD4
      refine ⟨3, _, _, by decide, rD4.any.same s21, r2, rfl, ?_⟩
      rw [eqD_refl, if_pos rfl]
      (repeat (first | (with_reducible first | refine rd_bl ?_ | refine rd_next ?_ | refine iteNF ?_)))
      exact ⟨_, _, _, _, _, rfl, sL⟩
    · rintro σ H12 ⟨u1, u2, u3, u4, u5, rfl, s12⟩
      have s12 := sB.trans s12
      have zOk : ∀ n t : Nat, 1 ≤ n → n ≤ 60 → 1 ≤ t → t ≤ 60 → ClOk n (List.replicate t 0) := fun n t a1 a2 a3 a4 => ⟨a1, a2, by simpa using a3, by simpa using a4, fun r hr => by rw [(List.mem_replicate.mp hr).2]; exact Nat.two_pow_pos _⟩
      clear sm gt La
      (repeat (first | (with_reducible first | refine rd_seq ?_ | refine rd_asg ?_ | refine rd_c ?_ | refine rd_op ?_ | refine rd_nil ?_ | refine rd_cons ?_ | refine rd_lst ?_ | refine rd_make ?_) | (((with_reducible apply rd_var); exact rfl)) | (((with_reducible refine rd_len ?_ ?_); exact Nat.le_of_ble_eq_true rfl))))
      intro l0 hl0
      have z1 := same_new (o := HO.lst [V.int 0]) hl0
      have k0 : upd H12 l0 (HO.lst [V.int 0]) l0 = _ := upd_same
      generalize upd H12 l0 (HO.lst [V.int 0]) = H13 at z1 k0 ⊢
      (repeat (first | (with_reducible first | refine rd_c ?_ | refine rd_op ?_ | refine rd_rI0 ?_ | refine rd_test ?_ | refine rd_bl ?_ | refine rd_if ?_) | (((with_reducible apply rd_var); exact rfl))))
      refine ifE (fun v H' => ∃ t : Nat, v = nV t ∧ H' = H13 ∧ 1 ≤ t ∧ t ≤ 60 ∧ t ≠ high) ?_ (fun R key => ?_)
      rotate_left
      · refine iteC (fun hb => ?_) (fun hb => ?_)
        · have hb := of_decide_eq_true hb
          (repeat (first | (with_reducible first | refine rd_c ?_ | refine rd_op ?_ | refine rd_rI0 ?_) | (((with_reducible apply rd_var); exact rfl))))
          exact key _ _ ⟨high + 1, rfl, rfl, by (first | assumption | decide | omega), by (first | assumption | decide | omega), by (first | assumption | decide | omega)⟩
        · have hb := of_decide_eq_false hb
          (repeat (first | (with_reducible refine rd_c ?_)))
          exact key _ _ ⟨1, rfl, rfl, by (first | assumption | decide | omega), by (first | assumption | decide | omega), by (first | assumption | decide | omega)⟩
      rintro v H' ⟨ta, rfl, rfl, t1, t2, t3⟩
      (skip)
      refine rd_rep k0 (by (first | assumption | decide | omega)) (by (first | assumption | decide | omega)) (by simp) fun l1 hl1 => ?_
      rw [show (List.replicate ((ta : Nat) : Int).toNat [V.int 0]).flatten = (List.replicate ta 0).map nV by
        rw [Int.toNat_natCast, List.map_replicate]
        simp]
      have z2 := same_new (o := HO.lst ((List.replicate ta 0).map nV)) hl1
      have gl1 : upd H' l1 (HO.lst ((List.replicate ta 0).map nV)) l1 = _ := upd_same
      generalize upd H' l1 (HO.lst ((List.replicate ta 0).map nV)) = H14 at z2 gl1 ⊢
      (repeat (first | (with_reducible refine rd_nil ?_)))
      refine cl_mk gl1 (zOk wide ta w1 hw60 t1 t2) fun H15 ct z3 hct Ct => ?_
      have sA : Same H12 H15 := z1.trans (z2.trans z3)
      clear k0 gl1 hl0 hl1 z1 z2 z3 hct
      (repeat (first | (with_reducible first | refine rd_seq ?_ | refine rd_name ?_ | refine rd_c ?_ | refine rd_op ?_ | refine rd_rI0 ?_ | refine rd_test ?_ | refine rd_bl ?_ | refine rd_if ?_ | refine rd_cons ?_ | refine rd_tup ?_ | refine rd_for ?_ | refine rd_iT ?_ | refine rd_make ?_) | (((with_reducible apply rd_var); exact rfl))))
      refine ifE (fun v H' => ∃ t : Nat, v = nV t ∧ H' = H15 ∧ 1 ≤ t ∧ t ≤ 60 ∧ t ≠ wide) ?_ (fun R key => ?_)
      rotate_left
      · refine iteC (fun hb => ?_) (fun hb => ?_)
        · have hb := of_decide_eq_true hb
          (repeat (first | (with_reducible first | refine rd_c ?_ | refine rd_op ?_ | refine rd_rI0 ?_) | (((with_reducible apply rd_var); exact rfl))))
          exact key _ _ ⟨wide + 1, rfl, rfl, by (first | assumption | decide | omega), by (first | assumption | decide | omega), by (first | assumption | decide | omega)⟩
        · have hb := of_decide_eq_false hb
          (repeat (first | (with_reducible refine rd_c ?_)))
          exact key _ _ ⟨1, rfl, rfl, by (first | assumption | decide | omega), by (first | assumption | decide | omega), by (first | assumption | decide | omega)⟩
      rintro v H' ⟨wa, rfl, rfl, v1, v2, v3⟩
      (repeat (first | (with_reducible first | refine rd_c ?_ | refine rd_op ?_ | refine rd_nil ?_ | refine rd_cons ?_ | refine rd_lst ?_) | (((with_reducible refine rd_len ?_ ?_); exact Nat.le_of_ble_eq_true rfl))))
      intro l0 hl0
      have z1 := same_new (o := HO.lst [V.int 0]) hl0
      have k0 : upd H' l0 (HO.lst [V.int 0]) l0 = _ := upd_same
      generalize upd H' l0 (HO.lst [V.int 0]) = H16 at z1 k0 ⊢
      (repeat (first | (((with_reducible apply rd_var); exact rfl))))
      refine rd_rep k0 (by (first | assumption | decide | omega)) (by (first | assumption | decide | omega)) (by simp) fun l1 hl1 => ?_
      rw [show (List.replicate ((high : Nat) : Int).toNat [V.int 0]).flatten = (List.replicate high 0).map nV by
        rw [Int.toNat_natCast, List.map_replicate]
        simp]
      have z2 := same_new (o := HO.lst ((List.replicate high 0).map nV)) hl1
      have gl1 : upd H16 l1 (HO.lst ((List.replicate high 0).map nV)) l1 = _ := upd_same
      generalize upd H16 l1 (HO.lst ((List.replicate high 0).map nV)) = H17 at z2 gl1 ⊢
      (repeat (first | (with_reducible refine rd_nil ?_)))
      refine cl_mk gl1 (zOk wa high v1 v2 h1 hb2) fun H18 cw z3 hcw Cw => ?_
      have sZ : Same H' H18 := z1.trans (z2.trans z3)
      have Ct := Ct.same sZ
      have sA := sA.trans sZ
      clear k0 gl1 hl0 hl1 z1 z2 z3 hcw sZ
      (repeat (first | (with_reducible first | refine rd_nil ?_ | refine rd_cons ?_) | (((with_reducible apply rd_var); exact rfl)) | (((with_reducible refine rd_len ?_ ?_); exact Nat.le_of_ble_eq_true rfl))))
      intro lt hlt
      have z4 := same_new (o := HO.tup [V.ref cw, V.ref ct]) hlt
      have gt : upd H18 lt (HO.tup [V.ref cw, V.ref ct]) lt = _ := upd_same
      generalize upd H18 lt (HO.tup [V.ref cw, V.ref ct]) = H19 at z4 gt ⊢
      have Ct := Ct.same z4
      have Cw := Cw.same z4
      have sA := s12.trans (sA.trans z4)
      obtain ⟨c0, e0, C0⟩ := Ca 0 (by (first | assumption | decide | omega))
      have C0 := C0.same sA
      have gh := sA _ _ g7
      have pT := sA _ _ qT
      have ok0 := cOk 0 (by (first | assumption | decide | omega))
      have L0e := cL 0 (by (first | assumption | decide | omega))
      generalize (cs.getD 0 cl0).2 = R0 at C0 ok0 L0e
      clear Ca cOk cL cW sA z4 s12 sB hlt g7 qT
      have bC : ∀ {x n rs}, ClAt c.Cloth H19 x n rs → ClAt c.Cloth (bar TT H19) x n rs := fun {x n rs} ⟨d, t, h1, h2⟩ => ⟨d, t, bar_some h1 pT (by intro z; cases z), bar_some h2 pT (by intro z; cases z)⟩
      have B1 := bC Ct
      have B2 := bC Cw
      have B3 := bC C0
      have bh := bar_some gh pT (by intro z; cases z)
      have bt := bar_some gt pT (by intro z; cases z)
      have bT : bar TT H19 TT = none := if_pos rfl
      have L0 : LamT H19 TT lq := lam_start pT
      have sb : Same (bar TT H19) H19 := bar_same
      generalize bar TT H19 = B0 at bT B1 B2 B3 bh bt sb
      clear bC
      (skip)
      refine ⟨lt, rfl, ⟨_, SqT.of gt⟩, for_srcW (H0 := B0) (fs_tup (SqT.of bt)) (fun i σ H3 => ∃ v, σ = [some (.ref a), some (.int W), some (nV many), some (nV wide), some (nV high), some (.ref l4), some (.ref D), u1, u2, u3, u4, none, some (.ref ct), none, none, some (.ref dh), u5, v] ∧ Same B0 H3 ∧ LamT H3 TT lq) ⟨_, rfl, sb, L0⟩ (fun i σ H3 ⟨_, _, s, _⟩ => s) ?_ ?_⟩
      · rintro i σ H' H20 hi3 ⟨v', rfl, s', L'⟩ s20
        have sC := s'.trans s20
        have L20 := L'.same s20
        obtain ⟨y, nF, rF, ey, Cy', oF, nolike⟩ : ∃ y nF rF, [V.ref cw, V.ref ct].getD i .non = .ref y ∧ ClAt c.Cloth B0 y nF rF ∧ ClOk nF rF ∧ ¬ (nF = wide ∧ rF.length = R0.length) := by
          match i, hi3 with
          | 0, _ => exact ⟨cw, _, _, rfl, B2, zOk wa high v1 v2 h1 hb2, fun z => v3 z.1⟩
          | 1, _ => exact ⟨ct, _, _, rfl, B1, zOk wide ta w1 hw60 t1 t2, fun z => t3 (by have := z.2; simp at this; omega)⟩
        rw [ey]
        (repeat (first | (with_reducible first | refine rd_op ?_ | refine rd_test ?_) | (with_reducible refine rd_ifS ?_)))
        refine rd_caught L20 [.ref y, .ref dh] rfl (fun i j h => ?_) fun H21 L21 go => ?_
        · match i, h with
          | 0, h => cases h; exact ⟨_, rfl, rfl⟩
          | 1, h => cases h; exact ⟨_, rfl, rfl⟩
        have s21 := fun b o e => go b o (fun z => by rw [z, bT] at e; cases e) (sC b o e)
        refine ⟨fun E' R hE => ?_, fun H30 pt lt2 ev s30 q1 q2 => ?_⟩
        · (repeat (first | (with_reducible first | refine rd_c ?_ | refine rd_op ?_ | refine rd_cons ?_ | refine rd_lst ?_ | refine rd_call ?_) | (((with_reducible apply rd_var); exact rfl))))
          refine rd_ixL (SqL.of (s21 _ _ bh)) (atI_nat (j := 0) (getD_some e0)) ?_
          (repeat (first | (with_reducible first | refine rd_nil ?_ | refine rd_cons ?_) | (((with_reducible apply rd_var); exact rfl)) | (((with_reducible refine rd_len ?_ ?_); exact Nat.le_of_ble_eq_true rfl))))
          intro lp hlp
          have z1 := same_new (o := HO.lst [V.ref c0, V.ref y]) hlp
          have gp : upd H21 lp (HO.lst [V.ref c0, V.ref y]) lp = some (.lst ([c0, y].map V.ref)) := upd_same
          generalize upd H21 lp (HO.lst [V.ref c0, V.ref y]) = H22 at z1 gp ⊢
          have s22 : Same B0 H22 := Same.trans s21 z1
          (repeat (first | (with_reducible refine rd_nil ?_)))
          have un : likeB [(wide, R0), (nF, rF)] = false := by
            cases hlk : likeB [(wide, R0), (nF, rF)] with
            | false => rfl
            | true => exact absurd (likeB_at hlk (i := 1) (by simp)) nolike
          refine ⟨lp, [(wide, R0), (nF, rF)], rfl, cls_of gp rfl (fun i hi => ?_), fun i hi => ?_, by simp, by simp, fun z => absurd z (by rw [unfit un]; decide), fun _ H1 z => hE H1 (z1.trans z)⟩
          · match i, hi with
            | 0, _ => exact B3.same s22
            | 1, _ => exact Cy'.same s22
          · match i, hi with
            | 0, _ => exact ok0
            | 1, _ => exact oF
        (repeat (first | (with_reducible refine rd_c ?_)))
        refine rd_ixT (SqT.of q1) (atI_nat (j := 0) rfl) ?_
        (repeat (first | (with_reducible first | refine rd_c ?_ | refine rd_nil ?_ | refine rd_cons ?_ | refine rd_lst ?_) | (((with_reducible refine rd_len ?_ ?_); exact Nat.le_of_ble_eq_true rfl))))
        intro le hle
        have s31 := same_new (o := HO.lst [V.str "cloth"]) hle
        have ge : upd H30 le (HO.lst [V.str "cloth"]) le = some (.lst (([("cloth" : Str)]).map V.str)) := upd_same
        generalize upd H30 le (HO.lst [V.str "cloth"]) = H31 at s31 ge ⊢
        (skip)
        refine rd_neLS (as := ["cloth"]) (SqL.of (s31 _ _ q2)) (SqL.of ge) ?_
        (repeat (first | (with_reducible refine rd_bl ?_)))
        rw [decide_eq_true rfl]
        (repeat (first | (with_reducible first | refine rd_next ?_ | refine iteNF ?_)))
        exact ⟨_, rfl, Same.trans (Same.trans s21 s30) s31, (L21.same s30).same s31⟩
      · rintro σ H20 ⟨v', rfl, s20, L20⟩
        clear B1 B2 B3 bh bt sb L0 bT gh gt pT C0 Ct Cw
        (repeat (first | (with_reducible first | refine rd_seq ?_ | refine rd_asg ?_ | refine rd_c ?_ | refine rd_nil ?_ | refine rd_cons ?_ | refine rd_lst ?_ | refine rd_make ?_) | (((with_reducible refine rd_len ?_ ?_); exact Nat.le_of_ble_eq_true rfl))))
        intro l1 hl1
        have z1 := same_new (o := HO.lst [V.int 1]) hl1
        have k1 : upd H20 l1 (HO.lst [V.int 1]) l1 = some (.lst (([1] : List Nat).map nV)) := upd_same
        generalize upd H20 l1 (HO.lst [V.int 1]) = H21 at z1 k1 ⊢
        have ok1 : ClOk 2 [1] := ⟨by decide, by decide, by decide, by decide, fun r hr => by rw [List.mem_singleton.mp hr]; decide⟩
        have ok2 : ClOk 2 [2] := ⟨by decide, by decide, by decide, by decide, fun r hr => by rw [List.mem_singleton.mp hr]; decide⟩
        have ok3 : ClOk 2 [3] := ⟨by decide, by decide, by decide, by decide, fun r hr => by rw [List.mem_singleton.mp hr]; decide⟩
        have ok4 : ClOk 3 [1] := ⟨by decide, by decide, by decide, by decide, fun r hr => by rw [List.mem_singleton.mp hr]; decide⟩
        have ok5 : ClOk 2 [1, 2] := ⟨by decide, by decide, by decide, by decide, fun r hr => by
          rcases List.mem_cons.mp hr with z | z
          · rw [z]; decide
          · rw [List.mem_singleton.mp z]; decide⟩
        (repeat (first | (with_reducible refine rd_nil ?_)))
        refine cl_mk (n := 2) k1 ok1 fun H22 x1 z2 _ C1 => ?_
        (repeat (first | (with_reducible first | refine rd_c ?_ | refine rd_nil ?_ | refine rd_cons ?_ | refine rd_lst ?_ | refine rd_make ?_) | (((with_reducible refine rd_len ?_ ?_); exact Nat.le_of_ble_eq_true rfl))))
        intro l2 hl2
        have z3 := same_new (o := HO.lst [V.int 2]) hl2
        have k2 : upd H22 l2 (HO.lst [V.int 2]) l2 = some (.lst (([2] : List Nat).map nV)) := upd_same
        generalize upd H22 l2 (HO.lst [V.int 2]) = H23 at z3 k2 ⊢
        (repeat (first | (with_reducible refine rd_nil ?_)))
        refine cl_mk (n := 2) k2 ok2 fun H24 x2 z4 _ C2 => ?_
        (repeat (first | (with_reducible first | refine rd_c ?_ | refine rd_nil ?_ | refine rd_cons ?_ | refine rd_lst ?_ | refine rd_make ?_) | (((with_reducible refine rd_len ?_ ?_); exact Nat.le_of_ble_eq_true rfl))))
        intro l3 hl3
        have z5 := same_new (o := HO.lst [V.int 3]) hl3
        have k3 : upd H24 l3 (HO.lst [V.int 3]) l3 = some (.lst (([3] : List Nat).map nV)) := upd_same
        generalize upd H24 l3 (HO.lst [V.int 3]) = H25 at z5 k3 ⊢
        (repeat (first | (with_reducible refine rd_nil ?_)))
        refine cl_mk (n := 2) k3 ok3 fun H26 x3 z6 _ C3 => ?_
        (repeat (first | (with_reducible refine rd_nil ?_) | (((with_reducible refine rd_len ?_ ?_); exact Nat.le_of_ble_eq_true rfl))))
        intro ls hls
        have z7 := same_new (o := HO.lst [V.ref x1, V.ref x2, V.ref x3]) hls
        have gs : upd H26 ls (HO.lst [V.ref x1, V.ref x2, V.ref x3]) ls = _ := upd_same
        generalize upd H26 ls (HO.lst [V.ref x1, V.ref x2, V.ref x3]) = H27 at z7 gs ⊢
        have C1 := C1.same (z3.trans (z4.trans (z5.trans (z6.trans z7))))
        have C2 := C2.same (z5.trans (z6.trans z7))
        have C3 := C3.same z7
        have L27 := L20.same (z1.trans (z2.trans (z3.trans (z4.trans (z5.trans (z6.trans z7))))))
        clear z1 z2 z3 z4 z5 z6 z7 k1 k2 k3 hl1 hl2 hl3 hls L20 s20
        (repeat (first | (with_reducible first | refine rd_seq ?_ | refine rd_name ?_ | refine rd_c ?_ | refine rd_nil ?_ | refine rd_cons ?_ | refine rd_lst ?_ | refine rd_tup ?_ | refine rd_for ?_ | refine rd_iT ?_ | refine rd_make ?_) | (((with_reducible refine rd_len ?_ ?_); exact Nat.le_of_ble_eq_true rfl))))
        intro l1 hl1
        have z1 := same_new (o := HO.lst [V.int 1]) hl1
        have k1 : upd H27 l1 (HO.lst [V.int 1]) l1 = some (.lst (([1] : List Nat).map nV)) := upd_same
        generalize upd H27 l1 (HO.lst [V.int 1]) = H28 at z1 k1 ⊢
        (repeat (first | (with_reducible refine rd_nil ?_)))
        refine cl_mk (n := 3) k1 ok4 fun H29 x4 z2 _ C4 => ?_
        (repeat (first | (with_reducible first | refine rd_c ?_ | refine rd_nil ?_ | refine rd_cons ?_ | refine rd_lst ?_ | refine rd_make ?_) | (((with_reducible refine rd_len ?_ ?_); exact Nat.le_of_ble_eq_true rfl))))
        intro l2 hl2
        have z3 := same_new (o := HO.lst [V.int 1, V.int 2]) hl2
        have k2 : upd H29 l2 (HO.lst [V.int 1, V.int 2]) l2 = some (.lst (([1, 2] : List Nat).map nV)) := upd_same
        generalize upd H29 l2 (HO.lst [V.int 1, V.int 2]) = H30 at z3 k2 ⊢
        (repeat (first | (with_reducible refine rd_nil ?_)))
        refine cl_mk (n := 2) k2 ok5 fun H31 x5 z4 _ C5 => ?_
        (repeat (first | (with_reducible refine rd_nil ?_) | (((with_reducible refine rd_len ?_ ?_); exact Nat.le_of_ble_eq_true rfl))))
        intro lt hlt
        have z5 := same_new (o := HO.tup [V.ref x4, V.ref x5]) hlt
        have gt : upd H31 lt (HO.tup [V.ref x4, V.ref x5]) lt = _ := upd_same
        generalize upd H31 lt (HO.tup [V.ref x4, V.ref x5]) = H32 at z5 gt ⊢
        have sA := z1.trans (z2.trans (z3.trans (z4.trans z5)))
        have C1 := C1.same sA
        have C2 := C2.same sA
        have C3 := C3.same sA
        have gs := sA _ _ gs
        have C4 := C4.same (z3.trans (z4.trans z5))
        have C5 := C5.same z5
        have L32 := L27.same sA
        clear z1 z2 z3 z4 z5 k1 k2 hl1 hl2 hlt sA L27
        obtain ⟨psT, pT, _⟩ := id L32
        have bC : ∀ {x n rs}, ClAt c.Cloth H32 x n rs → ClAt c.Cloth (bar TT H32) x n rs := fun {x n rs} ⟨d, t, h1, h2⟩ => ⟨d, t, bar_some h1 pT (by intro z; cases z), bar_some h2 pT (by intro z; cases z)⟩
        have A1 := bC C1
        have A2 := bC C2
        have A3 := bC C3
        have A4 := bC C4
        have A5 := bC C5
        have bs := bar_some gs pT (by intro z; cases z)
        have bt := bar_some gt pT (by intro z; cases z)
        have bT : bar TT H32 TT = none := if_pos rfl
        have sb : Same (bar TT H32) H32 := bar_same
        generalize bar TT H32 = B1 at bT A1 A2 A3 A4 A5 bs bt sb
        clear bC C1 C2 C3 C4 C5 gs pT
        (skip)
        refine ⟨lt, rfl, ⟨_, SqT.of gt⟩, for_srcW (H0 := B1) (fs_tup (SqT.of bt)) (fun i σ H3 => ∃ v v2, σ = [some (.ref a), some (.int W), some (nV many), some (nV wide), some (nV high), some (.ref l4), some (.ref D), some (.ref ls), u2, u3, u4, none, some (.ref ct), none, none, some (.ref dh), v2, v] ∧ Same B1 H3 ∧ LamT H3 TT lq) ⟨_, _, rfl, sb, L32⟩ (fun i σ H3 ⟨_, _, _, s, _⟩ => s) ?_ ?_⟩
        · rintro i σ H' H33 hi3 ⟨v', v2', rfl, s', L'⟩ s33
          have sC := s'.trans s33
          have L33 := L'.same s33
          obtain ⟨y, nF, rF, ey, Cy, oF, un⟩ : ∃ y nF rF, [V.ref x4, V.ref x5].getD i .non = .ref y ∧ ClAt c.Cloth B1 y nF rF ∧ ClOk nF rF ∧ (likeB [(2, [1]), (2, [2]), (nF, rF)] = false ∧ likeB [(2, [1]), (2, [2]), (2, [3]), (nF, rF)] = false ∧ likeB [(nF, rF), (2, [1]), (2, [2]), (2, [3])] = false) := by
            match i, hi3 with
            | 0, _ => exact ⟨x4, _, _, rfl, A4, ok4, by decide, by decide, by decide⟩
            | 1, _ => exact ⟨x5, _, _, rfl, A5, ok5, by decide, by decide, by decide⟩
          obtain ⟨un1, un2, un3⟩ := un
          rw [ey]
          (repeat (first | (with_reducible first | refine rd_c ?_ | refine rd_op ?_ | refine rd_cons ?_ | refine rd_lst ?_ | refine rd_tup ?_ | refine rd_for ?_ | refine rd_iT ?_) | (((with_reducible apply rd_var); exact rfl))))
          refine rd_ixL (SqL.of (sC _ _ bs)) (atI_nat (j := 0) rfl) ?_
          (repeat (first | (with_reducible first | refine rd_c ?_ | refine rd_op ?_ | refine rd_cons ?_) | (((with_reducible apply rd_var); exact rfl))))
          refine rd_ixL (SqL.of (sC _ _ bs)) (atI_nat (j := 1) rfl) ?_
          (repeat (first | (with_reducible first | refine rd_nil ?_ | refine rd_cons ?_) | (((with_reducible apply rd_var); exact rfl)) | (((with_reducible refine rd_len ?_ ?_); exact Nat.le_of_ble_eq_true rfl))))
          intro m1 hm1
          have z1 := same_new (o := HO.lst [V.ref x1, V.ref x2, V.ref y]) hm1
          have g1 : upd H33 m1 (HO.lst [V.ref x1, V.ref x2, V.ref y]) m1 = some (.lst ([x1, x2, y].map V.ref)) := upd_same
          generalize upd H33 m1 (HO.lst [V.ref x1, V.ref x2, V.ref y]) = H34 at z1 g1 ⊢
          (repeat (first | (with_reducible first | refine rd_op ?_ | refine rd_nil ?_ | refine rd_cons ?_ | refine rd_lst ?_) | (((with_reducible apply rd_var); exact rfl)) | (((with_reducible refine rd_len ?_ ?_); exact Nat.le_of_ble_eq_true rfl))))
          intro m2 hm2
          have z2 := same_new (o := HO.lst [V.ref y]) hm2
          have g2 : upd H34 m2 (HO.lst [V.ref y]) m2 = _ := upd_same
          generalize upd H34 m2 (HO.lst [V.ref y]) = H35 at z2 g2 ⊢
          (skip)
          refine rd_cat (SqL.of (z2 _ _ (z1 _ _ (sC _ _ bs)))) (SqL.of g2) (by simp) fun m3 hm3 => ?_
          have z3 := same_new (o := HO.lst ([V.ref x1, V.ref x2, V.ref x3] ++ [V.ref y])) hm3
          have g3 : upd H35 m3 (HO.lst ([V.ref x1, V.ref x2, V.ref x3] ++ [V.ref y])) m3 = some (.lst ([x1, x2, x3, y].map V.ref)) := upd_same
          generalize upd H35 m3 (HO.lst ([V.ref x1, V.ref x2, V.ref x3] ++ [V.ref y])) = H36 at z3 g3 ⊢
          (repeat (first | (with_reducible first | refine rd_op ?_ | refine rd_nil ?_ | refine rd_cons ?_ | refine rd_lst ?_) | (((with_reducible apply rd_var); exact rfl)) | (((with_reducible refine rd_len ?_ ?_); exact Nat.le_of_ble_eq_true rfl))))
          intro m4 hm4
          have z4 := same_new (o := HO.lst [V.ref y]) hm4
          have g4 : upd H36 m4 (HO.lst [V.ref y]) m4 = _ := upd_same
          generalize upd H36 m4 (HO.lst [V.ref y]) = H37 at z4 g4 ⊢
          (repeat (first | (((with_reducible apply rd_var); exact rfl))))
          refine rd_cat (SqL.of g4) (SqL.of (z4 _ _ (z3 _ _ (z2 _ _ (z1 _ _ (sC _ _ bs)))))) (by simp) fun m5 hm5 => ?_
          have z5 := same_new (o := HO.lst ([V.ref y] ++ [V.ref x1, V.ref x2, V.ref x3])) hm5
          have g5 : upd H37 m5 (HO.lst ([V.ref y] ++ [V.ref x1, V.ref x2, V.ref x3])) m5 = some (.lst ([y, x1, x2, x3].map V.ref)) := upd_same
          generalize upd H37 m5 (HO.lst ([V.ref y] ++ [V.ref x1, V.ref x2, V.ref x3])) = H38 at z5 g5 ⊢
          (repeat (first | (with_reducible refine rd_nil ?_) | (((with_reducible refine rd_len ?_ ?_); exact Nat.le_of_ble_eq_true rfl))))
          intro m6 hm6
          have z6 := same_new (o := HO.tup [V.ref m1, V.ref m3, V.ref m5]) hm6
          have g6 : upd H38 m6 (HO.tup [V.ref m1, V.ref m3, V.ref m5]) m6 = _ := upd_same
          generalize upd H38 m6 (HO.tup [V.ref m1, V.ref m3, V.ref m5]) = H39 at z6 g6 ⊢
          have sD := sC.trans (z1.trans (z2.trans (z3.trans (z4.trans (z5.trans z6)))))
          have g1 := z6 _ _ (z5 _ _ (z4 _ _ (z3 _ _ (z2 _ _ g1))))
          have g3 := z6 _ _ (z5 _ _ (z4 _ _ g3))
          have g5 := z6 _ _ g5
          have L39 := L33.same (z1.trans (z2.trans (z3.trans (z4.trans (z5.trans z6)))))
          clear z1 z2 z3 z4 z5 z6 g2 g4 hm1 hm2 hm3 hm4 hm5 hm6 L33 L'
          obtain ⟨psT, pT, _⟩ := id L39
          have bC : ∀ {x n rs}, ClAt c.Cloth B1 x n rs → ClAt c.Cloth (bar TT H39) x n rs := fun {x n rs} C => by
            obtain ⟨d, t, h1, h2⟩ := C.same sD
            exact ⟨d, t, bar_some h1 pT (by intro z; cases z), bar_some h2 pT (by intro z; cases z)⟩
          have E1 := bC A1
          have E2 := bC A2
          have E3 := bC A3
          have Ey := bC Cy
          have b1 := bar_some g1 pT (by intro z; cases z)
          have b3 := bar_some g3 pT (by intro z; cases z)
          have b5 := bar_some g5 pT (by intro z; cases z)
          have b6 := bar_some g6 pT (by intro z; cases z)
          have bT2 : bar TT H39 TT = none := if_pos rfl
          have sb2 : Same (bar TT H39) H39 := bar_same
          have sbar : Same B1 (bar TT H39) := fun b o e => (if_neg fun z => by rw [z, bT] at e; cases e).trans (sD b o e)
          generalize bar TT H39 = B2 at bT2 E1 E2 E3 Ey b1 b3 b5 b6 sb2 sbar
          clear bC pT
          (skip)
          refine ⟨m6, rfl, ⟨_, SqT.of g6⟩, for_srcW (H0 := B2) (fs_tup (SqT.of b6)) (fun i σ H3 => ∃ v2, σ = [some (.ref a), some (.int W), some (nV many), some (nV wide), some (nV high), some (.ref l4), some (.ref D), some (.ref ls), u2, u3, u4, none, some (.ref ct), none, none, some (.ref dh), v2, some (.ref y)] ∧ Same B2 H3 ∧ LamT H3 TT lq) ⟨_, rfl, sb2, L39⟩ (fun i σ H3 ⟨_, _, s, _⟩ => s) ?_ ?_⟩
          · rintro i σ H' H40 hi4 ⟨v2', rfl, s', L'⟩ s40
            have sC := s'.trans s40
            have L40 := L'.same s40
            obtain ⟨q, cq, eq, Cq, kq, lq0, lq1, uq⟩ : ∃ q cq, [V.ref m1, V.ref m3, V.ref m5].getD i .non = .ref q ∧ ClsAt c B2 q cq ∧ ClsOk cq ∧ 0 < cq.length ∧ cq.length ≤ 10 ∧ likeB cq = false := by
              match i, hi4 with
              | 0, _ =>
                refine ⟨m1, [(2, [1]), (2, [2]), (nF, rF)], rfl, cls_of b1 rfl (fun i hi => ?_), fun i hi => ?_, by simp, by simp, un1⟩
                · match i, hi with
                  | 0, _ => exact E1
                  | 1, _ => exact E2
                  | 2, _ => exact Ey
                · match i, hi with
                  | 0, _ => exact ok1
                  | 1, _ => exact ok2
                  | 2, _ => exact oF
              | 1, _ =>
                refine ⟨m3, [(2, [1]), (2, [2]), (2, [3]), (nF, rF)], rfl, cls_of b3 rfl (fun i hi => ?_), fun i hi => ?_, by simp, by simp, un2⟩
                · match i, hi with
                  | 0, _ => exact E1
                  | 1, _ => exact E2
                  | 2, _ => exact E3
                  | 3, _ => exact Ey
                · match i, hi with
                  | 0, _ => exact ok1
                  | 1, _ => exact ok2
                  | 2, _ => exact ok3
                  | 3, _ => exact oF
              | 2, _ =>
                refine ⟨m5, [(nF, rF), (2, [1]), (2, [2]), (2, [3])], rfl, cls_of b5 rfl (fun i hi => ?_), fun i hi => ?_, by simp, by simp, un3⟩
                · match i, hi with
                  | 0, _ => exact Ey
                  | 1, _ => exact E1
                  | 2, _ => exact E2
                  | 3, _ => exact E3
                · match i, hi with
                  | 0, _ => exact oF
                  | 1, _ => exact ok1
                  | 2, _ => exact ok2
                  | 3, _ => exact ok3
            rw [eq]
            (repeat (first | (with_reducible first | refine rd_op ?_ | refine rd_test ?_) | (with_reducible refine rd_ifS ?_)))
            refine rd_caught L40 [.ref q] rfl (fun i j h => ?_) fun H21 L21 go => ?_
            · match i, h with
              | 0, h => cases h; exact ⟨_, rfl, rfl⟩
            have s21 := fun b o e => go b o (fun z => by rw [z, bT2] at e; cases e) (sC b o e)
            refine ⟨fun E' R hE => ?_, fun H30 pt lt2 ev s30 q1 q2 => ?_⟩
            · (repeat (first | (with_reducible first | refine rd_nil ?_ | refine rd_cons ?_ | refine rd_call ?_) | (((with_reducible apply rd_var); exact rfl))))
              exact ⟨q, cq, rfl, Cq.same s21, kq, lq0, lq1, fun z => absurd z (by rw [unfit uq]; decide), fun _ H1 z => hE H1 z⟩
            (repeat (first | (with_reducible refine rd_c ?_)))
            refine rd_ixT (SqT.of q1) (atI_nat (j := 0) rfl) ?_
            (repeat (first | (with_reducible first | refine rd_c ?_ | refine rd_nil ?_ | refine rd_cons ?_ | refine rd_lst ?_) | (((with_reducible refine rd_len ?_ ?_); exact Nat.le_of_ble_eq_true rfl))))
            intro le hle
            have s31 := same_new (o := HO.lst [V.str "cloth"]) hle
            have ge : upd H30 le (HO.lst [V.str "cloth"]) le = some (.lst (([("cloth" : Str)]).map V.str)) := upd_same
            generalize upd H30 le (HO.lst [V.str "cloth"]) = H31 at s31 ge ⊢
            (skip)
            refine rd_neLS (as := ["cloth"]) (SqL.of (s31 _ _ q2)) (SqL.of ge) ?_
            (repeat (first | (with_reducible refine rd_bl ?_)))
            rw [decide_eq_true rfl]
            (repeat (first | (with_reducible first | refine rd_next ?_ | refine iteNF ?_)))
            exact ⟨_, rfl, Same.trans (Same.trans s21 s30) s31, (L21.same s30).same s31⟩
          · rintro σ H40 ⟨v2', rfl, s40, L40⟩
            (skip)
            exact ⟨_, _, rfl, sbar.trans s40, L40⟩
        · rintro σ H33 ⟨v', v2', rfl, s33, L33⟩
          clear A1 A2 A3 A4 A5 bs bt sb L32 bT gt
          have big : ∀ k : Int, ∃ n : Nat, 21 + mixV W k % 40 = (n : Nat) ∧ 21 ≤ n ∧ n ≤ 60 := fun k => by
            have h0 := Int.emod_nonneg (mixV W k) (show (40 : Int) ≠ 0 by decide)
            have h1 := Int.emod_lt_of_pos (mixV W k) (show (0 : Int) < 40 by decide)
            exact ⟨(21 + mixV W k % 40).toNat, by (first | assumption | decide | omega), by (first | assumption | decide | omega), by (first | assumption | decide | omega)⟩
          (repeat (first | (with_reducible first | refine rd_seq ?_ | refine rd_asg ?_ | refine rd_c ?_ | refine rd_op ?_ | refine rd_nil ?_ | refine rd_cons ?_ | refine rd_call ?_ | refine rd_make ?_) | (((with_reducible apply rd_var); exact rfl))))
          refine ⟨W, 3, rfl, ⟨by decide, by decide⟩, ?_⟩
          (repeat (first | (with_reducible refine rd_c ?_)))
          refine rd_rI (by decide) ?_
          (repeat (first | (with_reducible first | refine rd_c ?_ | refine rd_rI0 ?_ | refine rd_nil ?_ | refine rd_cons ?_ | refine rd_lst ?_) | (((with_reducible refine rd_len ?_ ?_); exact Nat.le_of_ble_eq_true rfl))))
          obtain ⟨nb, eb, nb1, nb2⟩ := big 3
          rw [eb]
          intro l0 hl0
          have z1 := same_new (o := HO.lst [V.int 0]) hl0
          have k0 : upd H33 l0 (HO.lst [V.int 0]) l0 = some (.lst ((List.replicate 1 0).map nV)) := upd_same
          generalize upd H33 l0 (HO.lst [V.int 0]) = H34 at z1 k0 ⊢
          (repeat (first | (with_reducible refine rd_nil ?_)))
          refine cl_mk k0 (zOk nb 1 (by (first | assumption | decide | omega)) nb2 (by decide) (by decide)) fun H35 xb z2 _ Cb => ?_
          (repeat (first | (with_reducible first | refine rd_seq ?_ | refine rd_asg ?_ | refine rd_name ?_ | refine rd_c ?_ | refine rd_op ?_ | refine rd_nil ?_ | refine rd_cons ?_ | refine rd_lst ?_ | refine rd_make ?_) | (((with_reducible refine rd_len ?_ ?_); exact Nat.le_of_ble_eq_true rfl))))
          intro l1 hl1
          have z3 := same_new (o := HO.lst [V.int 0]) hl1
          have k1 : upd H35 l1 (HO.lst [V.int 0]) l1 = _ := upd_same
          generalize upd H35 l1 (HO.lst [V.int 0]) = H36 at z3 k1 ⊢
          (repeat (first | (with_reducible first | refine rd_c ?_ | refine rd_op ?_ | refine rd_nil ?_ | refine rd_cons ?_ | refine rd_call ?_) | (((with_reducible apply rd_var); exact rfl))))
          refine ⟨W, 4, rfl, ⟨by decide, by decide⟩, ?_⟩
          (repeat (first | (with_reducible refine rd_c ?_)))
          refine rd_rI (by decide) ?_
          (repeat (first | (with_reducible refine rd_rI0 ?_)))
          obtain ⟨nt, et, nt1, nt2⟩ := big 4
          rw [et]
          refine rd_rep k1 (by (first | assumption | decide | omega)) (by (first | assumption | decide | omega)) (by simp) fun l2 hl2 => ?_
          rw [show (List.replicate ((nt : Nat) : Int).toNat [V.int 0]).flatten = (List.replicate nt 0).map nV by
            rw [Int.toNat_natCast, List.map_replicate]
            simp]
          have z4 := same_new (o := HO.lst ((List.replicate nt 0).map nV)) hl2
          have gl2 : upd H36 l2 (HO.lst ((List.replicate nt 0).map nV)) l2 = _ := upd_same
          generalize upd H36 l2 (HO.lst ((List.replicate nt 0).map nV)) = H37 at z4 gl2 ⊢
          (repeat (first | (with_reducible refine rd_nil ?_)))
          refine cl_mk (n := 1) gl2 (zOk 1 nt (by decide) (by decide) (by (first | assumption | decide | omega)) nt2) fun H38 xt z5 _ Ct => ?_
          (repeat (first | (with_reducible first | refine rd_seq ?_ | refine rd_name ?_ | refine rd_nil ?_ | refine rd_cons ?_ | refine rd_tup ?_ | refine rd_for ?_ | refine rd_iT ?_) | (((with_reducible apply rd_var); exact rfl)) | (((with_reducible refine rd_len ?_ ?_); exact Nat.le_of_ble_eq_true rfl))))
          intro lt hlt
          have z6 := same_new (o := HO.tup [V.ref xb, V.ref xt]) hlt
          have gt : upd H38 lt (HO.tup [V.ref xb, V.ref xt]) lt = _ := upd_same
          generalize upd H38 lt (HO.tup [V.ref xb, V.ref xt]) = H39 at z6 gt ⊢
          have Cb := Cb.same (z3.trans (z4.trans (z5.trans z6)))
          have Ct := Ct.same z6
          have L39 := L33.same (z1.trans (z2.trans (z3.trans (z4.trans (z5.trans z6)))))
          clear z1 z2 z3 z4 z5 z6 k0 k1 gl2 hl0 hl1 hl2 hlt L33
          obtain ⟨psT, pT, _⟩ := id L39
          have bC : ∀ {x n rs}, ClAt c.Cloth H39 x n rs → ClAt c.Cloth (bar TT H39) x n rs := fun {x n rs} ⟨d, t, h1, h2⟩ => ⟨d, t, bar_some h1 pT (by intro z; cases z), bar_some h2 pT (by intro z; cases z)⟩
          have Ab := bC Cb
          have At := bC Ct
          have bt := bar_some gt pT (by intro z; cases z)
          have bT : bar TT H39 TT = none := if_pos rfl
          have sb : Same (bar TT H39) H39 := bar_same
          generalize bar TT H39 = B3 at bT Ab At bt sb
          clear bC Cb Ct pT
          (skip)
          refine ⟨lt, rfl, ⟨_, SqT.of gt⟩, for_srcW (H0 := B3) (fs_tup (SqT.of bt)) (fun i σ H3 => ∃ v, σ = [some (.ref a), some (.int W), some (nV many), some (nV wide), some (nV high), some (.ref l4), some (.ref D), some (.ref ls), u2, u3, u4, v, some (.ref ct), some (.ref xb), some (.ref xt), some (.ref dh), v2', v'] ∧ Same B3 H3 ∧ LamT H3 TT lq) ⟨_, rfl, sb, L39⟩ (fun i σ H3 ⟨_, _, s, _⟩ => s) ?_ ?_⟩
          · rintro i σ H' H40 hi3 ⟨v0', rfl, s', L'⟩ s40
            have sC := s'.trans s40
            have L40 := L'.same s40
            obtain ⟨y, nF, rF, ey, Cy, oF, un⟩ : ∃ y nF rF, [V.ref xb, V.ref xt].getD i .non = .ref y ∧ ClAt c.Cloth B3 y nF rF ∧ ClOk nF rF ∧ ¬ (nF * 3 ≤ 60 ∧ rF.length * 3 ≤ 60) := by
              match i, hi3 with
              | 0, _ => exact ⟨xb, _, _, rfl, Ab, zOk nb 1 (by (first | assumption | decide | omega)) nb2 (by decide) (by decide), fun z => by (first | assumption | decide | omega)⟩
              | 1, _ => exact ⟨xt, _, _, rfl, At, zOk 1 nt (by decide) (by decide) (by (first | assumption | decide | omega)) nt2, fun z => by have := z.2; rw [List.length_replicate] at this; omega⟩
            rw [ey]
            (repeat (first | (with_reducible first | refine rd_op ?_ | refine rd_test ?_) | (with_reducible refine rd_ifS ?_)))
            refine rd_caught L40 [.ref y] rfl (fun i j h => ?_) fun H21 L21 go => ?_
            · match i, h with
              | 0, h => cases h; exact ⟨_, rfl, rfl⟩
            have s21 := fun b o e => go b o (fun z => by rw [z, bT] at e; cases e) (sC b o e)
            refine ⟨fun E' R hE => ?_, fun H30 pt lt2 ev s30 q1 q2 => ?_⟩
            · (repeat (first | (with_reducible first | refine rd_nil ?_ | refine rd_cons ?_ | refine rd_lst ?_ | refine rd_call ?_) | (((with_reducible apply rd_var); exact rfl)) | (((with_reducible refine rd_len ?_ ?_); exact Nat.le_of_ble_eq_true rfl))))
              intro lp hlp
              have z1 := same_new (o := HO.lst [V.ref y, V.ref y, V.ref y]) hlp
              have gp : upd H21 lp (HO.lst [V.ref y, V.ref y, V.ref y]) lp = some (.lst ([y, y, y].map V.ref)) := upd_same
              generalize upd H21 lp (HO.lst [V.ref y, V.ref y, V.ref y]) = H22 at z1 gp ⊢
              have s22 : Same B3 H22 := Same.trans s21 z1
              (repeat (first | (with_reducible refine rd_nil ?_)))
              have uf : wFit [(nF, rF), (nF, rF), (nF, rF)] = false := by
                cases hw : wFit [(nF, rF), (nF, rF), (nF, rF)] with
                | false => rfl
                | true =>
                  unfold wFit at hw
                  rw [Bool.and_eq_true, Bool.and_eq_true] at hw
                  exact absurd ⟨of_decide_eq_true hw.1.2, of_decide_eq_true hw.2⟩ un
              refine ⟨lp, [(nF, rF), (nF, rF), (nF, rF)], rfl, cls_of gp rfl (fun i hi => ?_), fun i hi => ?_, by simp, by simp, fun z => absurd z (by rw [uf]; decide), fun _ H1 z => hE H1 (z1.trans z)⟩
              · match i, hi with
                | 0, _ => exact Cy.same s22
                | 1, _ => exact Cy.same s22
                | 2, _ => exact Cy.same s22
              · match i, hi with
                | 0, _ => exact oF
                | 1, _ => exact oF
                | 2, _ => exact oF
            (repeat (first | (with_reducible refine rd_c ?_)))
            refine rd_ixT (SqT.of q1) (atI_nat (j := 0) rfl) ?_
            (repeat (first | (with_reducible first | refine rd_c ?_ | refine rd_nil ?_ | refine rd_cons ?_ | refine rd_lst ?_) | (((with_reducible refine rd_len ?_ ?_); exact Nat.le_of_ble_eq_true rfl))))
            intro le hle
            have s31 := same_new (o := HO.lst [V.str "cloth"]) hle
            have ge : upd H30 le (HO.lst [V.str "cloth"]) le = some (.lst (([("cloth" : Str)]).map V.str)) := upd_same
            generalize upd H30 le (HO.lst [V.str "cloth"]) = H31 at s31 ge ⊢
            (skip)
            refine rd_neLS (as := ["cloth"]) (SqL.of (s31 _ _ q2)) (SqL.of ge) ?_
            (repeat (first | (with_reducible refine rd_bl ?_)))
            rw [decide_eq_true rfl]
            (repeat (first | (with_reducible first | refine rd_next ?_ | refine iteNF ?_)))
            exact ⟨_, rfl, Same.trans (Same.trans s21 s30) s31, (L21.same s30).same s31⟩
          · rintro σ H40 ⟨v0', rfl, s40, L40⟩
            (repeat (first | (with_reducible first | refine rd_c ?_ | refine rd_ret ?_)))
            exact k _
end
end K27
namespace K27
open PySem L2 PySem.Spec PyProof.Rows
theorem all_mk {l : PySem.W.OpenLaw} {w : World} {K : PySem.W.Frag} {h : Heap} {mg : Str → Option Value} {fa : Addr} (X : K.In h) (G : h.Ns mainGlobals mg) (hfa : mg "law" = some (.ref fa))
    {C_Cloth : Addr}
    {C_LoomError : Addr}
    {C_BadRow : Addr}
    {C_BadWord : Addr}
    {C_TooMany : Addr}
    {C_NotPlain : Addr}
    {C_NotGrown : Addr}
    {C_BadDraft : Addr}
    {C_BadCloth : Addr}
    {C_OutOfPlace : Addr}
    {f0 : Addr} {od0 an0 : Option Addr} {sl0 : Array (Option Value)} {oc0 kV0 dc0 pm0 cd0 ct0 : Value}
    {f1 : Addr} {od1 an1 : Option Addr} {sl1 : Array (Option Value)} {oc1 kV1 dc1 pm1 cd1 ct1 : Value}
    {f2 : Addr} {od2 an2 : Option Addr} {sl2 : Array (Option Value)} {oc2 kV2 dc2 pm2 cd2 ct2 : Value}
    {f3 : Addr} {od3 an3 : Option Addr} {sl3 : Array (Option Value)} {oc3 kV3 dc3 pm3 cd3 ct3 : Value}
    {f4 : Addr} {od4 an4 : Option Addr} {sl4 : Array (Option Value)} {oc4 kV4 dc4 pm4 cd4 ct4 : Value}
    {f5 : Addr} {od5 an5 : Option Addr} {sl5 : Array (Option Value)} {oc5 kV5 dc5 pm5 cd5 ct5 : Value}
    {f6 : Addr} {od6 an6 : Option Addr} {sl6 : Array (Option Value)} {oc6 kV6 dc6 pm6 cd6 ct6 : Value}
    {f7 : Addr} {od7 an7 : Option Addr} {sl7 : Array (Option Value)} {oc7 kV7 dc7 pm7 cd7 ct7 : Value}
    {f8 : Addr} {od8 an8 : Option Addr} {sl8 : Array (Option Value)} {oc8 kV8 dc8 pm8 cd8 ct8 : Value}
    {f9 : Addr} {od9 an9 : Option Addr} {sl9 : Array (Option Value)} {oc9 kV9 dc9 pm9 cd9 ct9 : Value}
    {f10 : Addr} {od10 an10 : Option Addr} {sl10 : Array (Option Value)} {oc10 kV10 dc10 pm10 cd10 ct10 : Value}
    {f11 : Addr} {od11 an11 : Option Addr} {sl11 : Array (Option Value)} {oc11 kV11 dc11 pm11 cd11 ct11 : Value}
    {f12 : Addr} {od12 an12 : Option Addr} {sl12 : Array (Option Value)} {oc12 kV12 dc12 pm12 cd12 ct12 : Value}
    {f13 : Addr} {od13 an13 : Option Addr} {sl13 : Array (Option Value)} {oc13 kV13 dc13 pm13 cd13 ct13 : Value}
    {f14 : Addr} {od14 an14 : Option Addr} {sl14 : Array (Option Value)} {oc14 kV14 dc14 pm14 cd14 ct14 : Value}
    {f15 : Addr} {od15 an15 : Option Addr} {sl15 : Array (Option Value)} {oc15 kV15 dc15 pm15 cd15 ct15 : Value}
    {f16 : Addr} {od16 an16 : Option Addr} {sl16 : Array (Option Value)} {oc16 kV16 dc16 pm16 cd16 ct16 : Value}
    {f17 : Addr} {od17 an17 : Option Addr} {sl17 : Array (Option Value)} {oc17 kV17 dc17 pm17 cd17 ct17 : Value}
    {f18 : Addr} {od18 an18 : Option Addr} {sl18 : Array (Option Value)} {oc18 kV18 dc18 pm18 cd18 ct18 : Value}
    {f19 : Addr} {od19 an19 : Option Addr} {sl19 : Array (Option Value)} {oc19 kV19 dc19 pm19 cd19 ct19 : Value}
    {f20 : Addr} {od20 an20 : Option Addr} {sl20 : Array (Option Value)} {oc20 kV20 dc20 pm20 cd20 ct20 : Value}
    {f21 : Addr} {od21 an21 : Option Addr} {sl21 : Array (Option Value)} {oc21 kV21 dc21 pm21 cd21 ct21 : Value}
    {f22 : Addr} {od22 an22 : Option Addr} {sl22 : Array (Option Value)} {oc22 kV22 dc22 pm22 cd22 ct22 : Value}
    {f23 : Addr} {od23 an23 : Option Addr} {sl23 : Array (Option Value)} {oc23 kV23 dc23 pm23 cd23 ct23 : Value}
    {f24 : Addr} {od24 an24 : Option Addr} {sl24 : Array (Option Value)} {oc24 kV24 dc24 pm24 cd24 ct24 : Value}
    {f25 : Addr} {od25 an25 : Option Addr} {sl25 : Array (Option Value)} {oc25 kV25 dc25 pm25 cd25 ct25 : Value}
    {tk0 : Tok}
    {tk1 : Tok}
    {cc TT : Addr} {ts : List Addr}
    (aC_Cloth : PySem.W.nsIn K mainGlobals "Cloth" = some (some (.ref C_Cloth)))
    (pg_Cloth : PySem.W.plainGet K C_Cloth Str.empty = true)
    (hd_Cloth : PySem.W.hasDictIn K C_Cloth = true)
    (po_Cloth : PySem.W.plainOver K C_Cloth = true)
    (sa_Cloth : PySem.W.findIn K (.ref C_Cloth) "__setattr__" = some (some (.builtin "object.__setattr__")))
    (mk_Cloth : PySem.W.makesIn K C_Cloth = true)
    (kc_Cloth : PySem.W.keepIn K (.ref C_Cloth) = true)
    (ha_Cloth : PySem.W.findIn K (.ref C_Cloth) "__class__" = some (some (.builtin "object.__class__")))
    (hn_Cloth : PySem.W.specialIn K (.builtin "object.__class__") "__get__" = some (some (.builtin "getset_descriptor.__get__")))
    (ht_Cloth : PySem.W.takesIn K (.builtin "object.__class__") = some true)
    (hm_Cloth : PySem.W.mroIn K C_Cloth (.type "object") = some true)
    (na_Cloth_width : PySem.W.findIn K (.ref C_Cloth) "width" = some none)
    (na_Cloth_rows : PySem.W.findIn K (.ref C_Cloth) "rows" = some none)
    (aC_LoomError : PySem.W.nsIn K mainGlobals "LoomError" = some (some (.ref C_LoomError)))
    (aC_BadRow : PySem.W.nsIn K mainGlobals "BadRow" = some (some (.ref C_BadRow)))
    (aC_BadWord : PySem.W.nsIn K mainGlobals "BadWord" = some (some (.ref C_BadWord)))
    (aC_TooMany : PySem.W.nsIn K mainGlobals "TooMany" = some (some (.ref C_TooMany)))
    (aC_NotPlain : PySem.W.nsIn K mainGlobals "NotPlain" = some (some (.ref C_NotPlain)))
    (aC_NotGrown : PySem.W.nsIn K mainGlobals "NotGrown" = some (some (.ref C_NotGrown)))
    (aC_BadDraft : PySem.W.nsIn K mainGlobals "BadDraft" = some (some (.ref C_BadDraft)))
    (aC_BadCloth : PySem.W.nsIn K mainGlobals "BadCloth" = some (some (.ref C_BadCloth)))
    (aC_OutOfPlace : PySem.W.nsIn K mainGlobals "OutOfPlace" = some (some (.ref C_OutOfPlace)))
    (xc_BadCloth : PySem.W.isClsIn K C_BadCloth = true)
    (xg_BadCloth : PySem.W.findIn K (.ref C_BadCloth) "__getattribute__" = some (some (.builtin "BaseException.__getattribute__")))
    (xn_BadCloth : PySem.W.findIn K (.ref C_BadCloth) "__getattr__" = some none)
    (xb_BadCloth : PySem.W.mroIn K C_BadCloth (.type "BaseException") = some true)
    (ha_BadCloth : PySem.W.findIn K (.ref C_BadCloth) "__class__" = some (some (.builtin "object.__class__")))
    (hn_BadCloth : PySem.W.specialIn K (.builtin "object.__class__") "__get__" = some (some (.builtin "getset_descriptor.__get__")))
    (ht_BadCloth : PySem.W.takesIn K (.builtin "object.__class__") = some true)
    (hm_BadCloth : PySem.W.mroIn K C_BadCloth (.type "object") = some true)
    (xi_BadCloth : PySem.W.excIn K C_BadCloth [.type "ValueError", .type "Exception", .type "BaseException", .type "object"] "ValueError.__new__" = true)
    (xm_BadCloth_LoomError : PySem.W.exmOne K (.ref C_BadCloth) (.ref C_LoomError) = some true)
    (ki_BadCloth_BadRow : PySem.W.kitOne K (.ref C_BadCloth) (.ref C_BadRow) = some false)
    (ki_BadCloth_BadWord : PySem.W.kitOne K (.ref C_BadCloth) (.ref C_BadWord) = some false)
    (ki_BadCloth_TooMany : PySem.W.kitOne K (.ref C_BadCloth) (.ref C_TooMany) = some false)
    (ki_BadCloth_NotPlain : PySem.W.kitOne K (.ref C_BadCloth) (.ref C_NotPlain) = some false)
    (ki_BadCloth_NotGrown : PySem.W.kitOne K (.ref C_BadCloth) (.ref C_NotGrown) = some false)
    (ki_BadCloth_BadDraft : PySem.W.kitOne K (.ref C_BadCloth) (.ref C_BadDraft) = some false)
    (ki_BadCloth_BadCloth : PySem.W.kitOne K (.ref C_BadCloth) (.ref C_BadCloth) = some true)
    (ki_BadCloth_OutOfPlace : PySem.W.kitOne K (.ref C_BadCloth) (.ref C_OutOfPlace) = some false)
    (ki_BadCloth_ValueError : PySem.W.kitOne K (.ref C_BadCloth) (.type "ValueError") = some true)
    (a0 : PySem.W.nsIn K mainGlobals "bit_of" = some (some (.ref f0)))
    (l0 : K.lookup f0 = some ⟨oc0, od0, .func (PySem.W.fnOf "bit_of" "bit_of" (defArgs s_bit_of) (defBody s_bit_of) (defScope s_bit_of) .none kV0 dc0 pm0 an0 cd0 ct0), sl0⟩)
    (c0 : PySem.W.codeIn K cd0 "bit_of" = true)
    (k0 : PySem.W.keepIn K (.ref f0) = true)
    (a1 : PySem.W.nsIn K mainGlobals "mask_of" = some (some (.ref f1)))
    (l1 : K.lookup f1 = some ⟨oc1, od1, .func (PySem.W.fnOf "mask_of" "mask_of" (defArgs s_mask_of) (defBody s_mask_of) (defScope s_mask_of) .none kV1 dc1 pm1 an1 cd1 ct1), sl1⟩)
    (c1 : PySem.W.codeIn K cd1 "mask_of" = true)
    (k1 : PySem.W.keepIn K (.ref f1) = true)
    (a2 : PySem.W.nsIn K mainGlobals "mask_to" = some (some (.ref f2)))
    (l2 : K.lookup f2 = some ⟨oc2, od2, .func (PySem.W.fnOf "mask_to" "mask_to" (defArgs s_mask_to) (defBody s_mask_to) (defScope s_mask_to) .none kV2 dc2 pm2 an2 cd2 ct2), sl2⟩)
    (c2 : PySem.W.codeIn K cd2 "mask_to" = true)
    (k2 : PySem.W.keepIn K (.ref f2) = true)
    (a3 : PySem.W.nsIn K mainGlobals "has_number" = some (some (.ref f3)))
    (l3 : K.lookup f3 = some ⟨oc3, od3, .func (PySem.W.fnOf "has_number" "has_number" (defArgs s_has_number) (defBody s_has_number) (defScope s_has_number) .none kV3 dc3 pm3 an3 cd3 ct3), sl3⟩)
    (c3 : PySem.W.codeIn K cd3 "has_number" = true)
    (k3 : PySem.W.keepIn K (.ref f3) = true)
    (a4 : PySem.W.nsIn K mainGlobals "numbers_of" = some (some (.ref f4)))
    (l4 : K.lookup f4 = some ⟨oc4, od4, .func (PySem.W.fnOf "numbers_of" "numbers_of" (defArgs s_numbers_of) (defBody s_numbers_of) (defScope s_numbers_of) .none kV4 dc4 pm4 an4 cd4 ct4), sl4⟩)
    (c4 : PySem.W.codeIn K cd4 "numbers_of" = true)
    (k4 : PySem.W.keepIn K (.ref f4) = true)
    (a5 : PySem.W.nsIn K mainGlobals "union_of" = some (some (.ref f5)))
    (l5 : K.lookup f5 = some ⟨oc5, od5, .func (PySem.W.fnOf "union_of" "union_of" (defArgs s_union_of) (defBody s_union_of) (defScope s_union_of) .none kV5 dc5 pm5 an5 cd5 ct5), sl5⟩)
    (c5 : PySem.W.codeIn K cd5 "union_of" = true)
    (k5 : PySem.W.keepIn K (.ref f5) = true)
    (a6 : PySem.W.nsIn K mainGlobals "is_whole" = some (some (.ref f6)))
    (l6 : K.lookup f6 = some ⟨oc6, od6, .func (PySem.W.fnOf "is_whole" "is_whole" (defArgs s_is_whole) (defBody s_is_whole) (defScope s_is_whole) .none kV6 dc6 pm6 an6 cd6 ct6), sl6⟩)
    (c6 : PySem.W.codeIn K cd6 "is_whole" = true)
    (k6 : PySem.W.keepIn K (.ref f6) = true)
    (a7 : PySem.W.nsIn K mainGlobals "is_among" = some (some (.ref f7)))
    (l7 : K.lookup f7 = some ⟨oc7, od7, .func (PySem.W.fnOf "is_among" "is_among" (defArgs s_is_among) (defBody s_is_among) (defScope s_is_among) .none kV7 dc7 pm7 an7 cd7 ct7), sl7⟩)
    (c7 : PySem.W.codeIn K cd7 "is_among" = true)
    (k7 : PySem.W.keepIn K (.ref f7) = true)
    (a8 : PySem.W.nsIn K mainGlobals "need_cloth" = some (some (.ref f8)))
    (l8 : K.lookup f8 = some ⟨oc8, od8, .func (PySem.W.fnOf "need_cloth" "need_cloth" (defArgs s_need_cloth) (defBody s_need_cloth) (defScope s_need_cloth) .none kV8 dc8 pm8 an8 cd8 ct8), sl8⟩)
    (c8 : PySem.W.codeIn K cd8 "need_cloth" = true)
    (k8 : PySem.W.keepIn K (.ref f8) = true)
    (a9 : PySem.W.findIn K (.ref C_Cloth) "__init__" = some (some (.ref f9)))
    (i9 : PySem.W.isFn K (.ref f9) = true)
    (l9 : K.lookup f9 = some ⟨oc9, od9, .func (PySem.W.fnOf "__init__" "Cloth.__init__" (defArgs s_Cloth___init__) (defBody s_Cloth___init__) (defScope s_Cloth___init__) .none kV9 dc9 pm9 an9 cd9 ct9), sl9⟩)
    (c9 : PySem.W.codeIn K cd9 "Cloth.__init__" = true)
    (k9 : PySem.W.keepIn K (.ref f9) = true)
    (a10 : PySem.W.findIn K (.ref C_Cloth) "told" = some (some (.ref f10)))
    (i10 : PySem.W.isFn K (.ref f10) = true)
    (l10 : K.lookup f10 = some ⟨oc10, od10, .func (PySem.W.fnOf "told" "Cloth.told" (defArgs s_Cloth_told) (defBody s_Cloth_told) (defScope s_Cloth_told) .none kV10 dc10 pm10 an10 cd10 ct10), sl10⟩)
    (c10 : PySem.W.codeIn K cd10 "Cloth.told" = true)
    (k10 : PySem.W.keepIn K (.ref f10) = true)
    (a11 : PySem.W.findIn K (.ref C_Cloth) "ends" = some (some (.ref f11)))
    (i11 : PySem.W.isFn K (.ref f11) = true)
    (l11 : K.lookup f11 = some ⟨oc11, od11, .func (PySem.W.fnOf "ends" "Cloth.ends" (defArgs s_Cloth_ends) (defBody s_Cloth_ends) (defScope s_Cloth_ends) .none kV11 dc11 pm11 an11 cd11 ct11), sl11⟩)
    (c11 : PySem.W.codeIn K cd11 "Cloth.ends" = true)
    (k11 : PySem.W.keepIn K (.ref f11) = true)
    (a12 : PySem.W.findIn K (.ref C_Cloth) "picks" = some (some (.ref f12)))
    (i12 : PySem.W.isFn K (.ref f12) = true)
    (l12 : K.lookup f12 = some ⟨oc12, od12, .func (PySem.W.fnOf "picks" "Cloth.picks" (defArgs s_Cloth_picks) (defBody s_Cloth_picks) (defScope s_Cloth_picks) .none kV12 dc12 pm12 an12 cd12 ct12), sl12⟩)
    (c12 : PySem.W.codeIn K cd12 "Cloth.picks" = true)
    (k12 : PySem.W.keepIn K (.ref f12) = true)
    (a13 : PySem.W.findIn K (.ref C_Cloth) "row_at" = some (some (.ref f13)))
    (i13 : PySem.W.isFn K (.ref f13) = true)
    (l13 : K.lookup f13 = some ⟨oc13, od13, .func (PySem.W.fnOf "row_at" "Cloth.row_at" (defArgs s_Cloth_row_at) (defBody s_Cloth_row_at) (defScope s_Cloth_row_at) .none kV13 dc13 pm13 an13 cd13 ct13), sl13⟩)
    (c13 : PySem.W.codeIn K cd13 "Cloth.row_at" = true)
    (k13 : PySem.W.keepIn K (.ref f13) = true)
    (a14 : PySem.W.nsIn K mainGlobals "need_at_once" = some (some (.ref f14)))
    (l14 : K.lookup f14 = some ⟨oc14, od14, .func (PySem.W.fnOf "need_at_once" "need_at_once" (defArgs s_need_at_once) (defBody s_need_at_once) (defScope s_need_at_once) .none kV14 dc14 pm14 an14 cd14 ct14), sl14⟩)
    (c14 : PySem.W.codeIn K cd14 "need_at_once" = true)
    (k14 : PySem.W.keepIn K (.ref f14) = true)
    (a15 : PySem.W.nsIn K mainGlobals "up_ends" = some (some (.ref f15)))
    (l15 : K.lookup f15 = some ⟨oc15, od15, .func (PySem.W.fnOf "up_ends" "up_ends" (defArgs s_up_ends) (defBody s_up_ends) (defScope s_up_ends) .none kV15 dc15 pm15 an15 cd15 ct15), sl15⟩)
    (c15 : PySem.W.codeIn K cd15 "up_ends" = true)
    (k15 : PySem.W.keepIn K (.ref f15) = true)
    (a16 : PySem.W.nsIn K mainGlobals "whole_ends" = some (some (.ref f16)))
    (l16 : K.lookup f16 = some ⟨oc16, od16, .func (PySem.W.fnOf "whole_ends" "whole_ends" (defArgs s_whole_ends) (defBody s_whole_ends) (defScope s_whole_ends) .none kV16 dc16 pm16 an16 cd16 ct16), sl16⟩)
    (c16 : PySem.W.codeIn K cd16 "whole_ends" = true)
    (k16 : PySem.W.keepIn K (.ref f16) = true)
    (a17 : PySem.W.nsIn K mainGlobals "whole_row" = some (some (.ref f17)))
    (l17 : K.lookup f17 = some ⟨oc17, od17, .func (PySem.W.fnOf "whole_row" "whole_row" (defArgs s_whole_row) (defBody s_whole_row) (defScope s_whole_row) .none kV17 dc17 pm17 an17 cd17 ct17), sl17⟩)
    (c17 : PySem.W.codeIn K cd17 "whole_row" = true)
    (k17 : PySem.W.keepIn K (.ref f17) = true)
    (a18 : PySem.W.nsIn K mainGlobals "woven_at_once" = some (some (.ref f18)))
    (l18 : K.lookup f18 = some ⟨oc18, od18, .func (PySem.W.fnOf "woven_at_once" "woven_at_once" (defArgs s_woven_at_once) (defBody s_woven_at_once) (defScope s_woven_at_once) .none kV18 dc18 pm18 an18 cd18 ct18), sl18⟩)
    (c18 : PySem.W.codeIn K cd18 "woven_at_once" = true)
    (k18 : PySem.W.keepIn K (.ref f18) = true)
    (a19 : PySem.W.nsIn K mainGlobals "_law_mixed" = some (some (.ref f19)))
    (l19 : K.lookup f19 = some ⟨oc19, od19, .func (PySem.W.fnOf "_law_mixed" "_law_mixed" (defArgs s__law_mixed) (defBody s__law_mixed) (defScope s__law_mixed) .none kV19 dc19 pm19 an19 cd19 ct19), sl19⟩)
    (c19 : PySem.W.codeIn K cd19 "_law_mixed" = true)
    (k19 : PySem.W.keepIn K (.ref f19) = true)
    (a20 : PySem.W.nsIn K mainGlobals "_law_kinds" = some (some (.ref f20)))
    (l20 : K.lookup f20 = some ⟨oc20, od20, .func (PySem.W.fnOf "_law_kinds" "_law_kinds" (defArgs s__law_kinds) (defBody s__law_kinds) (defScope s__law_kinds) .none kV20 dc20 pm20 an20 cd20 ct20), sl20⟩)
    (c20 : PySem.W.codeIn K cd20 "_law_kinds" = true)
    (k20 : PySem.W.keepIn K (.ref f20) = true)
    (a21 : PySem.W.nsIn K mainGlobals "_law_whole" = some (some (.ref f21)))
    (l21 : K.lookup f21 = some ⟨oc21, od21, .func (PySem.W.fnOf "_law_whole" "_law_whole" (defArgs s__law_whole) (defBody s__law_whole) (defScope s__law_whole) .none kV21 dc21 pm21 an21 cd21 ct21), sl21⟩)
    (c21 : PySem.W.codeIn K cd21 "_law_whole" = true)
    (k21 : PySem.W.keepIn K (.ref f21) = true)
    (a22 : PySem.W.nsIn K mainGlobals "_law_up" = some (some (.ref f22)))
    (l22 : K.lookup f22 = some ⟨oc22, od22, .func (PySem.W.fnOf "_law_up" "_law_up" (defArgs s__law_up) (defBody s__law_up) (defScope s__law_up) .none kV22 dc22 pm22 an22 cd22 ct22), sl22⟩)
    (c22 : PySem.W.codeIn K cd22 "_law_up" = true)
    (k22 : PySem.W.keepIn K (.ref f22) = true)
    (a23 : PySem.W.nsIn K mainGlobals "_law_caught" = some (some (.ref f23)))
    (l23 : K.lookup f23 = some ⟨oc23, od23, .func (PySem.W.fnOf "_law_caught" "_law_caught" (defArgs s__law_caught) (defBody s__law_caught) (defScope s__law_caught) .none kV23 dc23 pm23 an23 cd23 ct23), sl23⟩)
    (c23 : PySem.W.codeIn K cd23 "_law_caught" = true)
    (k23 : PySem.W.keepIn K (.ref f23) = true)
    (a24 : PySem.W.nsIn K mainGlobals "_law_due" = some (some (.ref f24)))
    (l24 : K.lookup f24 = some ⟨oc24, od24, .func (PySem.W.fnOf "_law_due" "_law_due" (defArgs s__law_due) (defBody s__law_due) (defScope s__law_due) .none kV24 dc24 pm24 an24 cd24 ct24), sl24⟩)
    (c24 : PySem.W.codeIn K cd24 "_law_due" = true)
    (k24 : PySem.W.keepIn K (.ref f24) = true)
    (a25 : PySem.W.nsIn K mainGlobals "law" = some (some (.ref f25)))
    (l25 : K.lookup f25 = some ⟨oc25, od25, .func (PySem.W.fnOf "law" "law" (defArgs s_law) (defBody s_law) (defScope s_law) .none kV25 dc25 pm25 an25 cd25 ct25), sl25⟩)
    (c25 : PySem.W.codeIn K cd25 "law" = true)
    (k25 : PySem.W.keepIn K (.ref f25) = true)
    (z0 : PySem.W.nsIn K mainGlobals "isinstance" = some none)
    (z1 : PySem.W.nsIn K mainGlobals "int" = some none)
    (z2 : PySem.W.nsIn K mainGlobals "bool" = some none)
    (z3 : PySem.W.nsIn K mainGlobals "list" = some none)
    (z4 : PySem.W.nsIn K mainGlobals "tuple" = some none)
    (z5 : PySem.W.nsIn K mainGlobals "len" = some none)
    (z6 : PySem.W.nsIn K mainGlobals "all" = some none)
    (z7 : PySem.W.nsIn K mainGlobals "range" = some none)
    (z8 : PySem.W.nsIn K mainGlobals "sum" = some none)
    (z9 : PySem.W.nsIn K mainGlobals "enumerate" = some none)
    (z10 : PySem.W.nsIn K mainGlobals "min" = some none)
    (z11 : PySem.W.nsIn K mainGlobals "max" = some none)
    (z12 : PySem.W.nsIn K mainGlobals "ValueError" = some none)
    (y0 : PySem.W.nsIn K mainGlobals "MOST_ENDS" = some (some (.int 60 tk0)))
    (y1 : PySem.W.nsIn K mainGlobals "MOST_PICKS" = some (some (.int 60 tk1)))
    (hcc : cd25 = .ref cc)
    (hmem : TT ∈ ts)
    (hhd : PySem.W.codeHdIn K cc TT = true)
    (hns : TT ≠ PySem.cStatics)
    : ∃ (fd : FuncData) (c T : Addr), (∀ (s : Shared) (u : Value), BindsTo s fd ⟨[u], []⟩ [("_law_script", u)]) ∧ T ∈ ts ∧ T ≠ PySem.cStatics ∧ (∀ h' : Heap, K.In h' → PySem.W.CodeHd h' c T) ∧ ∀ base : Heap, K.In base → base.Ns mainGlobals mg → PySem.W.CodeHd base c T → base.BuiltinsAt mg T → FnOk l.prog w K mg base CX0 9 fa fd ["_law_script"] (spLawL K T) := by
  subst hcc
  have e := hfa.symm.trans (PySem.W.mg_of X G a25)
  cases e
  have F0 := fun_mk (st := s_bit_of) l0 c0 k0
  have B0 := F0.binds (ps := ["number"]) fun _ _ _ _ _ _ => arg1 fun _ => rfl
  have D0 : DefAt K mg "bit_of" s_bit_of ["number"] _ _ := ⟨F0, PySem.W.mg_of X G a0, B0⟩
  have F1 := fun_mk (st := s_mask_of) l1 c1 k1
  have B1 := F1.binds (ps := ["numbers"]) fun _ _ _ _ _ _ => arg1 fun _ => rfl
  have D1 : DefAt K mg "mask_of" s_mask_of ["numbers"] _ _ := ⟨F1, PySem.W.mg_of X G a1, B1⟩
  have F2 := fun_mk (st := s_mask_to) l2 c2 k2
  have B2 := F2.binds (ps := ["most"]) fun _ _ _ _ _ _ => arg1 fun _ => rfl
  have D2 : DefAt K mg "mask_to" s_mask_to ["most"] _ _ := ⟨F2, PySem.W.mg_of X G a2, B2⟩
  have F3 := fun_mk (st := s_has_number) l3 c3 k3
  have B3 := F3.binds (ps := ["mask", "number"]) fun _ _ _ _ _ _ => arg2 fun _ _ => rfl
  have D3 : DefAt K mg "has_number" s_has_number ["mask", "number"] _ _ := ⟨F3, PySem.W.mg_of X G a3, B3⟩
  have F4 := fun_mk (st := s_numbers_of) l4 c4 k4
  have B4 := F4.binds (ps := ["mask"]) fun _ _ _ _ _ _ => arg1 fun _ => rfl
  have D4 : DefAt K mg "numbers_of" s_numbers_of ["mask"] _ _ := ⟨F4, PySem.W.mg_of X G a4, B4⟩
  have F5 := fun_mk (st := s_union_of) l5 c5 k5
  have B5 := F5.binds (ps := ["masks"]) fun _ _ _ _ _ _ => arg1 fun _ => rfl
  have D5 : DefAt K mg "union_of" s_union_of ["masks"] _ _ := ⟨F5, PySem.W.mg_of X G a5, B5⟩
  have F6 := fun_mk (st := s_is_whole) l6 c6 k6
  have B6 := F6.binds (ps := ["thing"]) fun _ _ _ _ _ _ => arg1 fun _ => rfl
  have D6 : DefAt K mg "is_whole" s_is_whole ["thing"] _ _ := ⟨F6, PySem.W.mg_of X G a6, B6⟩
  have F7 := fun_mk (st := s_is_among) l7 c7 k7
  have B7 := F7.binds (ps := ["thing", "least", "most"]) fun _ _ _ _ _ _ => arg3 fun _ _ _ => rfl
  have D7 : DefAt K mg "is_among" s_is_among ["thing", "least", "most"] _ _ := ⟨F7, PySem.W.mg_of X G a7, B7⟩
  have F8 := fun_mk (st := s_need_cloth) l8 c8 k8
  have B8 := F8.binds (ps := ["ends", "rows"]) fun _ _ _ _ _ _ => arg2 fun _ _ => rfl
  have D8 : DefAt K mg "need_cloth" s_need_cloth ["ends", "rows"] _ _ := ⟨F8, PySem.W.mg_of X G a8, B8⟩
  have F9 := fun_mk (st := s_Cloth___init__) l9 c9 k9
  have B9 := F9.binds (ps := ["self", "ends", "rows"]) fun _ _ _ _ _ _ => arg3 fun _ _ _ => rfl
  have F10 := fun_mk (st := s_Cloth_told) l10 c10 k10
  have B10 := F10.binds (ps := ["self"]) fun _ _ _ _ _ _ => arg1 fun _ => rfl
  have F11 := fun_mk (st := s_Cloth_ends) l11 c11 k11
  have B11 := F11.binds (ps := ["self"]) fun _ _ _ _ _ _ => arg1 fun _ => rfl
  have F12 := fun_mk (st := s_Cloth_picks) l12 c12 k12
  have B12 := F12.binds (ps := ["self"]) fun _ _ _ _ _ _ => arg1 fun _ => rfl
  have F13 := fun_mk (st := s_Cloth_row_at) l13 c13 k13
  have B13 := F13.binds (ps := ["self", "pick"]) fun _ _ _ _ _ _ => arg2 fun _ _ => rfl
  have F14 := fun_mk (st := s_need_at_once) l14 c14 k14
  have B14 := F14.binds (ps := ["cloths"]) fun _ _ _ _ _ _ => arg1 fun _ => rfl
  have D14 : DefAt K mg "need_at_once" s_need_at_once ["cloths"] _ _ := ⟨F14, PySem.W.mg_of X G a14, B14⟩
  have F15 := fun_mk (st := s_up_ends) l15 c15 k15
  have B15 := F15.binds (ps := ["cloth", "place", "pick", "own"]) fun _ _ _ _ _ _ => arg4 fun _ _ _ _ => rfl
  have D15 : DefAt K mg "up_ends" s_up_ends ["cloth", "place", "pick", "own"] _ _ := ⟨F15, PySem.W.mg_of X G a15, B15⟩
  have F16 := fun_mk (st := s_whole_ends) l16 c16 k16
  have B16 := F16.binds (ps := ["ends", "place", "many"]) fun _ _ _ _ _ _ => arg3 fun _ _ _ => rfl
  have D16 : DefAt K mg "whole_ends" s_whole_ends ["ends", "place", "many"] _ _ := ⟨F16, PySem.W.mg_of X G a16, B16⟩
  have F17 := fun_mk (st := s_whole_row) l17 c17 k17
  have B17 := F17.binds (ps := ["cloths", "pick", "own"]) fun _ _ _ _ _ _ => arg3 fun _ _ _ => rfl
  have D17 : DefAt K mg "whole_row" s_whole_row ["cloths", "pick", "own"] _ _ := ⟨F17, PySem.W.mg_of X G a17, B17⟩
  have F18 := fun_mk (st := s_woven_at_once) l18 c18 k18
  have B18 := F18.binds (ps := ["cloths"]) fun _ _ _ _ _ _ => arg1 fun _ => rfl
  have D18 : DefAt K mg "woven_at_once" s_woven_at_once ["cloths"] _ _ := ⟨F18, PySem.W.mg_of X G a18, B18⟩
  have F19 := fun_mk (st := s__law_mixed) l19 c19 k19
  have B19 := F19.binds (ps := ["_law_cell", "_law_k"]) fun _ _ _ _ _ _ => arg2 fun _ _ => rfl
  have D19 : DefAt K mg "_law_mixed" s__law_mixed ["_law_cell", "_law_k"] _ _ := ⟨F19, PySem.W.mg_of X G a19, B19⟩
  have F20 := fun_mk (st := s__law_kinds) l20 c20 k20
  have B20 := F20.binds (ps := ["_law_error"]) fun _ _ _ _ _ _ => arg1 fun _ => rfl
  have D20 : DefAt K mg "_law_kinds" s__law_kinds ["_law_error"] _ _ := ⟨F20, PySem.W.mg_of X G a20, B20⟩
  have F21 := fun_mk (st := s__law_whole) l21 c21 k21
  have B21 := F21.binds (ps := ["_law_script"]) fun _ _ _ _ _ _ => arg1 fun _ => rfl
  have D21 : DefAt K mg "_law_whole" s__law_whole ["_law_script"] _ _ := ⟨F21, PySem.W.mg_of X G a21, B21⟩
  have F22 := fun_mk (st := s__law_up) l22 c22 k22
  have B22 := F22.binds (ps := ["_law_rows", "_law_end", "_law_pick"]) fun _ _ _ _ _ _ => arg3 fun _ _ _ => rfl
  have D22 : DefAt K mg "_law_up" s__law_up ["_law_rows", "_law_end", "_law_pick"] _ _ := ⟨F22, PySem.W.mg_of X G a22, B22⟩
  have F23 := fun_mk (st := s__law_caught) l23 c23 k23
  have B23 := F23.binds (ps := ["_law_asked"]) fun _ _ _ _ _ _ => arg1 fun _ => rfl
  have D23 : DefAt K mg "_law_caught" s__law_caught ["_law_asked"] _ _ := ⟨F23, PySem.W.mg_of X G a23, B23⟩
  have F24 := fun_mk (st := s__law_due) l24 c24 k24
  have B24 := F24.binds (ps := ["_law_cloths", "_law_wide"]) fun _ _ _ _ _ _ => arg2 fun _ _ => rfl
  have D24 : DefAt K mg "_law_due" s__law_due ["_law_cloths", "_law_wide"] _ _ := ⟨F24, PySem.W.mg_of X G a24, B24⟩
  have F25 := fun_mk (st := s_law) l25 c25 k25
  have B25 := F25.binds (ps := ["_law_script"]) fun _ _ _ _ _ _ => arg1 fun _ => rfl
  have D25 : DefAt K mg "law" s_law ["_law_script"] _ _ := ⟨F25, PySem.W.mg_of X G a25, B25⟩
  have T : Txt K mg ⟨C_Cloth, C_LoomError, C_BadRow, C_BadWord, C_TooMany, C_NotPlain, C_NotGrown, C_BadDraft, C_BadCloth, C_OutOfPlace⟩ := {
    own := fun x hx => by
      simp only [List.mem_cons, List.not_mem_nil, or_false] at hx
      rcases hx with rfl | rfl | rfl | rfl | rfl | rfl | rfl | rfl | rfl | rfl | rfl | rfl | rfl
      · exact PySem.W.mg_none_of X G z0
      · exact PySem.W.mg_none_of X G z1
      · exact PySem.W.mg_none_of X G z2
      · exact PySem.W.mg_none_of X G z3
      · exact PySem.W.mg_none_of X G z4
      · exact PySem.W.mg_none_of X G z5
      · exact PySem.W.mg_none_of X G z6
      · exact PySem.W.mg_none_of X G z7
      · exact PySem.W.mg_none_of X G z8
      · exact PySem.W.mg_none_of X G z9
      · exact PySem.W.mg_none_of X G z10
      · exact PySem.W.mg_none_of X G z11
      · exact PySem.W.mg_none_of X G z12
    g_Cloth := PySem.W.mg_of X G aC_Cloth
    kd_Cloth := ⟨⟨pg_Cloth, hd_Cloth, po_Cloth, sa_Cloth⟩, ha_Cloth, hn_Cloth, ht_Cloth, hm_Cloth⟩
    is_Cloth := if_pos (beq_self_eq_true _)
    na_Cloth_width := na_Cloth_width
    na_Cloth_rows := na_Cloth_rows
    g_LoomError := PySem.W.mg_of X G aC_LoomError
    g_BadRow := PySem.W.mg_of X G aC_BadRow
    g_BadWord := PySem.W.mg_of X G aC_BadWord
    g_TooMany := PySem.W.mg_of X G aC_TooMany
    g_NotPlain := PySem.W.mg_of X G aC_NotPlain
    g_NotGrown := PySem.W.mg_of X G aC_NotGrown
    g_BadDraft := PySem.W.mg_of X G aC_BadDraft
    g_BadCloth := PySem.W.mg_of X G aC_BadCloth
    xk_BadCloth := ⟨xc_BadCloth, xg_BadCloth, xn_BadCloth, xb_BadCloth, ha_BadCloth, hn_BadCloth, ht_BadCloth, hm_BadCloth⟩
    xi_BadCloth := xi_BadCloth
    xm_BadCloth_LoomError := xm_BadCloth_LoomError
    ki_BadCloth_BadRow := ki_BadCloth_BadRow
    ki_BadCloth_BadWord := ki_BadCloth_BadWord
    ki_BadCloth_TooMany := ki_BadCloth_TooMany
    ki_BadCloth_NotPlain := ki_BadCloth_NotPlain
    ki_BadCloth_NotGrown := ki_BadCloth_NotGrown
    ki_BadCloth_BadDraft := ki_BadCloth_BadDraft
    ki_BadCloth_BadCloth := ki_BadCloth_BadCloth
    ki_BadCloth_OutOfPlace := ki_BadCloth_OutOfPlace
    ki_BadCloth_ValueError := ki_BadCloth_ValueError
    g_OutOfPlace := PySem.W.mg_of X G aC_OutOfPlace
    k_MOST_ENDS := ⟨_, PySem.W.mg_of X G y0⟩
    k_MOST_PICKS := ⟨_, PySem.W.mg_of X G y1⟩
  }
  exact ⟨_, cc, TT, fun s v => .of_eq rfl, hmem, hns, fun _ X2 => PySem.W.codeHd_of_K X2 hhd, fun base _ _ hd hbt => by
    have c_bit_of := D0.call (ok_bit_of (P := l.prog) (w := w) (base := base) F0 T)
    have c_mask_of := D1.call (ok_mask_of (P := l.prog) (w := w) (base := base) F1 T c_bit_of)
    have c_mask_to := D2.call (ok_mask_to (P := l.prog) (w := w) (base := base) F2 T)
    have c_has_number := D3.call (ok_has_number (P := l.prog) (w := w) (base := base) F3 T c_bit_of)
    have c_numbers_of := D4.call (ok_numbers_of (P := l.prog) (w := w) (base := base) F4 T c_has_number)
    have c_union_of := D5.call (ok_union_of (P := l.prog) (w := w) (base := base) F5 T)
    have c_is_whole := D6.call (ok_is_whole (P := l.prog) (w := w) (base := base) F6 T)
    have c_is_among := D7.call (ok_is_among (P := l.prog) (w := w) (base := base) F7 T c_is_whole)
    have c_need_cloth := D8.callE (ok_need_cloth (P := l.prog) (w := w) (base := base) F8 T c_is_among c_mask_to)
    have m_Cloth : MakeE l.prog w K mg base "Cloth" C_Cloth 4 ["self", "ends", "rows"] _ := ⟨_, _, PySem.W.mg_of X G aC_Cloth, ⟨mk_Cloth, a9, i9, kc_Cloth⟩, ok_Cloth___init__ (P := l.prog) (w := w) (base := base) F9 T c_need_cloth, B9⟩
    have d_Cloth_told : MethF l.prog w K mg base C_Cloth "told" 1 ["self"] _ := ⟨_, _, T.kd_Cloth.cl, ⟨a10, i10, k10⟩, ok_Cloth_told (P := l.prog) (w := w) (base := base) F10 T, B10⟩
    have d_Cloth_ends : MethF l.prog w K mg base C_Cloth "ends" 1 ["self"] _ := ⟨_, _, T.kd_Cloth.cl, ⟨a11, i11, k11⟩, ok_Cloth_ends (P := l.prog) (w := w) (base := base) F11 T, B11⟩
    have d_Cloth_picks : MethF l.prog w K mg base C_Cloth "picks" 1 ["self"] _ := ⟨_, _, T.kd_Cloth.cl, ⟨a12, i12, k12⟩, ok_Cloth_picks (P := l.prog) (w := w) (base := base) F12 T, B12⟩
    have d_Cloth_row_at : MethF l.prog w K mg base C_Cloth "row_at" 1 ["self", "pick"] _ := ⟨_, _, T.kd_Cloth.cl, ⟨a13, i13, k13⟩, ok_Cloth_row_at (P := l.prog) (w := w) (base := base) F13 T, B13⟩
    have c_need_at_once := D14.callE (ok_need_at_once (P := l.prog) (w := w) (base := base) F14 T d_Cloth_ends d_Cloth_picks)
    have c_up_ends := D15.call (ok_up_ends (P := l.prog) (w := w) (base := base) F15 T c_numbers_of c_mask_to d_Cloth_row_at d_Cloth_ends)
    have c_whole_ends := D16.call (ok_whole_ends (P := l.prog) (w := w) (base := base) F16 T c_mask_of)
    have c_whole_row := D17.call (ok_whole_row (P := l.prog) (w := w) (base := base) F17 T c_union_of c_whole_ends c_up_ends)
    have c_woven_at_once := D18.callE (ok_woven_at_once (P := l.prog) (w := w) (base := base) F18 T c_need_at_once c_whole_row m_Cloth d_Cloth_ends d_Cloth_picks)
    have c__law_mixed := D19.call (ok__law_mixed (P := l.prog) (w := w) (base := base) F19 T)
    have c__law_kinds := D20.call (ok__law_kinds (P := l.prog) (w := w) (base := base) F20 T)
    have c__law_whole := D21.call (ok__law_whole (P := l.prog) (w := w) (base := base) F21 T)
    have c__law_up := D22.call (ok__law_up (P := l.prog) (w := w) (base := base) F22 T)
    have c__law_caught := D23.caught (ok__law_caught (P := l.prog) (w := w) (base := base) F23 B23 T c__law_kinds)
    have c__law_due := D24.call (ok__law_due (P := l.prog) (w := w) (base := base) F24 T c__law_up)
    exact ok_law rfl hd hbt F25 T c__law_whole c__law_mixed c__law_due m_Cloth c_woven_at_once d_Cloth_told c__law_caught
    ⟩
theorem walk {l : PySem.W.OpenLaw} {q : Program} {loose : List Str} {XP : (Str → Option Value) → Heap → Prop} {YP : World → Heap → Prop} {d : DefRec} {K : Params → PySem.W.Frag} (hn : l.most = some 63) (hdf : d.params.defaults = [])
    (hY : ∀ (w : World) (h : Heap), YP w h → (K w.params).In h)
    {ts : List Addr} (hYt : ∀ (w : World) (h : Heap), YP w h → ∀ P ∈ ts, h.get? P = some (PySem.W.tabObj #[])) (hnt : ∀ w : World, PySem.W.noTabs (K w.params) = true)
    (F : ∀ (w : World) (mg : Str → Option Value) (fa : Addr) (h : Heap), (K w.params).In h → h.Ns mainGlobals mg → mg d.name = some (.ref fa) →
      ∃ (fd : FuncData) (c T : Addr), (∀ (s : Shared) (u : Value), BindsTo s fd ⟨[u], []⟩ [("_law_script", u)]) ∧ T ∈ ts ∧ T ≠ PySem.cStatics ∧ (∀ h' : Heap, (K w.params).In h' → PySem.W.CodeHd h' c T) ∧ ∀ base : Heap, (K w.params).In base → base.Ns mainGlobals mg → PySem.W.CodeHd base c T → base.BuiltinsAt mg T → FnOk l.prog w (K w.params) mg base CX0 9 fa fd ["_law_script"] (spLawL (K w.params) T)) :
    PySem.W.WalkO q loose XP YP l.row.toRowW d [] (fun f vs => PySem.call f vs) :=
  L2.walk_ofL (n := 63) (k := 9) (x := "_law_script") (CX := fun _ => CX0) (sp := fun w T => spLawL (K w.params) T) hn (by decide) hdf ⟨rfl, by decide, by decide⟩ hY hYt hnt F (fun _ _ a _ ns hl _ hT hS => ⟨a, ns, rfl, hS, hl, hT, fun _ => rfl⟩) fun _ _ _ _ _ z => z
end K27
def PySem.W.Fast.tw4675898175528689414 : Nat := 0
theorem PySem.W.Fast.te4675898175528689414 : True := trivial
open PySem PySem.W PyProof.Rows
set_option maxRecDepth 100000 in
set_option maxHeartbeats 0 in
theorem PySem.Challenge.cw_loomwright_k27_whole_woven_at_once_holds : PySem.Challenge.rw_loomwright_k27_whole_woven_at_once.Holds := by
  w_on; refine PySem.W.holds_law (by decide +kernel) fun said => ?_; k_head; (case hw => w_witness2)
  k_fill
  refine K27.walk (l := PySem.Challenge.rw_loomwright_k27_whole_woven_at_once) rfl rfl (fun w h Y => PySem.W.km_in_of Y) (fun w h Y => PySem.W.km_tabs_of Y) (fun w => by kernel_rfl) ?F
  case F =>
    intro w mg fa h KX G hmg
    refine' K27.all_mk KX G hmg ?aC_Cloth ?pg_Cloth ?hd_Cloth ?po_Cloth ?sa_Cloth ?mk_Cloth ?kc_Cloth ?ha_Cloth ?hn_Cloth ?ht_Cloth ?hm_Cloth ?na_Cloth_width ?na_Cloth_rows ?aC_LoomError ?aC_BadRow ?aC_BadWord ?aC_TooMany ?aC_NotPlain ?aC_NotGrown ?aC_BadDraft ?aC_BadCloth ?aC_OutOfPlace ?xc_BadCloth ?xg_BadCloth ?xn_BadCloth ?xb_BadCloth ?ha_BadCloth ?hn_BadCloth ?ht_BadCloth ?hm_BadCloth ?xi_BadCloth ?xm_BadCloth_LoomError ?ki_BadCloth_BadRow ?ki_BadCloth_BadWord ?ki_BadCloth_TooMany ?ki_BadCloth_NotPlain ?ki_BadCloth_NotGrown ?ki_BadCloth_BadDraft ?ki_BadCloth_BadCloth ?ki_BadCloth_OutOfPlace ?ki_BadCloth_ValueError ?a0 ?l0 ?c0 ?k0 ?a1 ?l1 ?c1 ?k1 ?a2 ?l2 ?c2 ?k2 ?a3 ?l3 ?c3 ?k3 ?a4 ?l4 ?c4 ?k4 ?a5 ?l5 ?c5 ?k5 ?a6 ?l6 ?c6 ?k6 ?a7 ?l7 ?c7 ?k7 ?a8 ?l8 ?c8 ?k8 ?a9 ?i9 ?l9 ?c9 ?k9 ?a10 ?i10 ?l10 ?c10 ?k10 ?a11 ?i11 ?l11 ?c11 ?k11 ?a12 ?i12 ?l12 ?c12 ?k12 ?a13 ?i13 ?l13 ?c13 ?k13 ?a14 ?l14 ?c14 ?k14 ?a15 ?l15 ?c15 ?k15 ?a16 ?l16 ?c16 ?k16 ?a17 ?l17 ?c17 ?k17 ?a18 ?l18 ?c18 ?k18 ?a19 ?l19 ?c19 ?k19 ?a20 ?l20 ?c20 ?k20 ?a21 ?l21 ?c21 ?k21 ?a22 ?l22 ?c22 ?k22 ?a23 ?l23 ?c23 ?k23 ?a24 ?l24 ?c24 ?k24 ?a25 ?l25 ?c25 ?k25 ?z0 ?z1 ?z2 ?z3 ?z4 ?z5 ?z6 ?z7 ?z8 ?z9 ?z10 ?z11 ?z12 ?y0 ?y1 ?hcc ?hmem ?hhd ?hns
    (case aC_Cloth => k_is)
    (case pg_Cloth => k_is)
    (case hd_Cloth => k_is)
    (case po_Cloth => k_is)
    (case sa_Cloth => k_is)
    (case mk_Cloth => k_is)
    (case kc_Cloth => k_is)
    (case ha_Cloth => k_is)
    (case hn_Cloth => k_is)
    (case ht_Cloth => k_is)
    (case hm_Cloth => k_is)
    (case na_Cloth_width => k_is)
    (case na_Cloth_rows => k_is)
    (case aC_LoomError => k_is)
    (case aC_BadRow => k_is)
    (case aC_BadWord => k_is)
    (case aC_TooMany => k_is)
    (case aC_NotPlain => k_is)
    (case aC_NotGrown => k_is)
    (case aC_BadDraft => k_is)
    (case aC_BadCloth => k_is)
    (case aC_OutOfPlace => k_is)
    (case xc_BadCloth => k_is)
    (case xg_BadCloth => k_is)
    (case xn_BadCloth => k_is)
    (case xb_BadCloth => k_is)
    (case ha_BadCloth => k_is)
    (case hn_BadCloth => k_is)
    (case ht_BadCloth => k_is)
    (case hm_BadCloth => k_is)
    (case xi_BadCloth => k_exc)
    (case xm_BadCloth_LoomError => kts_exm)
    (case ki_BadCloth_BadRow => kit_is)
    (case ki_BadCloth_BadWord => kit_is)
    (case ki_BadCloth_TooMany => kit_is)
    (case ki_BadCloth_NotPlain => kit_is)
    (case ki_BadCloth_NotGrown => kit_is)
    (case ki_BadCloth_BadDraft => kit_is)
    (case ki_BadCloth_BadCloth => kit_is)
    (case ki_BadCloth_OutOfPlace => kit_is)
    (case ki_BadCloth_ValueError => kit_is)
    (case a0 => k_is)
    (case l0 => k_is)
    (case c0 => k_is)
    (case k0 => k_is)
    (case a1 => k_is)
    (case l1 => k_is)
    (case c1 => k_is)
    (case k1 => k_is)
    (case a2 => k_is)
    (case l2 => k_is)
    (case c2 => k_is)
    (case k2 => k_is)
    (case a3 => k_is)
    (case l3 => k_is)
    (case c3 => k_is)
    (case k3 => k_is)
    (case a4 => k_is)
    (case l4 => k_is)
    (case c4 => k_is)
    (case k4 => k_is)
    (case a5 => k_is)
    (case l5 => k_is)
    (case c5 => k_is)
    (case k5 => k_is)
    (case a6 => k_is)
    (case l6 => k_is)
    (case c6 => k_is)
    (case k6 => k_is)
    (case a7 => k_is)
    (case l7 => k_is)
    (case c7 => k_is)
    (case k7 => k_is)
    (case a8 => k_is)
    (case l8 => k_is)
    (case c8 => k_is)
    (case k8 => k_is)
    (case a9 => k_is)
    (case i9 => k_is)
    (case l9 => k_is)
    (case c9 => k_is)
    (case k9 => k_is)
    (case a10 => k_is)
    (case i10 => k_is)
    (case l10 => k_is)
    (case c10 => k_is)
    (case k10 => k_is)
    (case a11 => k_is)
    (case i11 => k_is)
    (case l11 => k_is)
    (case c11 => k_is)
    (case k11 => k_is)
    (case a12 => k_is)
    (case i12 => k_is)
    (case l12 => k_is)
    (case c12 => k_is)
    (case k12 => k_is)
    (case a13 => k_is)
    (case i13 => k_is)
    (case l13 => k_is)
    (case c13 => k_is)
    (case k13 => k_is)
    (case a14 => k_is)
    (case l14 => k_is)
    (case c14 => k_is)
    (case k14 => k_is)
    (case a15 => k_is)
    (case l15 => k_is)
    (case c15 => k_is)
    (case k15 => k_is)
    (case a16 => k_is)
    (case l16 => k_is)
    (case c16 => k_is)
    (case k16 => k_is)
    (case a17 => k_is)
    (case l17 => k_is)
    (case c17 => k_is)
    (case k17 => k_is)
    (case a18 => k_is)
    (case l18 => k_is)
    (case c18 => k_is)
    (case k18 => k_is)
    (case a19 => k_is)
    (case l19 => k_is)
    (case c19 => k_is)
    (case k19 => k_is)
    (case a20 => k_is)
    (case l20 => k_is)
    (case c20 => k_is)
    (case k20 => k_is)
    (case a21 => k_is)
    (case l21 => k_is)
    (case c21 => k_is)
    (case k21 => k_is)
    (case a22 => k_is)
    (case l22 => k_is)
    (case c22 => k_is)
    (case k22 => k_is)
    (case a23 => k_is)
    (case l23 => k_is)
    (case c23 => k_is)
    (case k23 => k_is)
    (case a24 => k_is)
    (case l24 => k_is)
    (case c24 => k_is)
    (case k24 => k_is)
    (case a25 => k_is)
    (case l25 => k_is)
    (case c25 => k_is)
    (case k25 => k_is)
    (case z0 => k_is)
    (case z1 => k_is)
    (case z2 => k_is)
    (case z3 => k_is)
    (case z4 => k_is)
    (case z5 => k_is)
    (case z6 => k_is)
    (case z7 => k_is)
    (case z8 => k_is)
    (case z9 => k_is)
    (case z10 => k_is)
    (case z11 => k_is)
    (case z12 => k_is)
    (case y0 => k_is)
    (case y1 => k_is)
    (case hcc => rfl)
    (case hmem => exact List.mem_cons_self)
    (case hhd => kernel_rfl)
    (case hns => decide)
